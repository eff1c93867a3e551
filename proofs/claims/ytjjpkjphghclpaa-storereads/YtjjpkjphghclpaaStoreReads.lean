/- For every shape and every list of blocks: what was put last of a name is what Get tells, what was dropped is not there; a list with a block of a wrong length is refused, and nothing is done. -/
import Derived.Test.YtjjpkjphghclpaaRows
import Derived.Test.YtjjpkjphghclpaaJ25
import Derived.BigQuiet
import Derived.WalkKit
import Derived.ProofKit
import Derived.OpenShut
import Derived.ShutString
import Derived.ChangeOld
import Derived.Below
namespace Go.Proofs.Ytjjpkjphghclpaa.storeReads
open Go.ChangeShapes Go.WideShapes Go.ChangeAt Go.RowKit
open Go.ChangeMaps (open_string shut_string)
set_option linter.unusedVariables false

theorem own : ownKnob Try.prog.godebug = none := by kernel_rfl
theorem laidOut : laidOutB Try.prog = true := by kernel_rfl

set_option maxRecDepth 20000 in
set_option maxHeartbeats 8000000 in
theorem walk (s0 : Sh) (a1 : Option Addr) (n1 c1 : Nat) (x1 : List Pt) (w : World) (w0 : ShF s0) (w1 : PtsR w a1 n1 x1 ∧ n1 ≤ c1 ∧ (a1 = none → n1 = 0 ∧ c1 = 0)) :
    Calls Try.prog 3 #[.agg (shL s0).toArray, .slice a1 n1 c1] w fun e w' => e = .returned (.bool true) ∧ Below w.heap.size w w' := by
  obtain ⟨hpr, hnc, hnil⟩ := w1
  have hb0 : Below w.heap.size w ((w.alloc (.cells #[.int .i64 s0.z, .int .i64 s0.zb, .int .i64 s0.b, .int .i64 s0.r] 23)).alloc (.cells #[.int .u8 0, .slice a1 n1 c1, .int .i64 0] 27)) := ((Below.refl _ _).alloc (Nat.le_refl _) _).alloc (by simp) _
  have bs0 : Blk ((w.alloc (.cells #[.int .i64 s0.z, .int .i64 s0.zb, .int .i64 s0.b, .int .i64 s0.r] 23)).alloc (.cells #[.int .u8 0, .slice a1 n1 c1, .int .i64 0] 27)) w.heap.size [.int .i64 s0.z, .int .i64 s0.zb, .int .i64 s0.b, .int .i64 s0.r] 23 := (Blk.new' rfl rfl).alloc _
  obtain ⟨hv, hHv⟩ : ∃ b, b = @decide (HvO s0 [⟨0, x1, 0⟩]) (Classical.propDecidable _) := ⟨_, rfl⟩
  have HHv : Hid (Calls Try.prog 7 #[.agg #[.int .i64 s0.z, .int .i64 s0.zb, .int .i64 s0.b, .int .i64 s0.r], .slice (some ⟨w.heap.size + 1, 0, none⟩) 1 1] ((w.alloc (.cells #[.int .i64 s0.z, .int .i64 s0.zb, .int .i64 s0.b, .int .i64 s0.r] 23)).alloc (.cells #[.int .u8 0, .slice a1 n1 c1, .int .i64 0] 27)) fun e w' => e = .returned (.int .i64 (trB hv)) ∧ Below w.heap.size w w' ∧ Blk w' w.heap.size [.int .i64 s0.z, .int .i64 s0.zb, .int .i64 s0.b, .int .i64 s0.r] 23) := by
    rw [hHv]
    refine (Heavy_one s0 a1 n1 c1 x1 hpr hnc hnil hb0 (Blk.new' (by simp) rfl)).mono ?_
    rintro e w' ⟨rfl, hb⟩
    exact ⟨rfl, hb0.trans (hb.mono hb0.size), bs0.below hb bs0.lt⟩
  have HH : Hid (hv = @decide (HvO s0 [⟨0, x1, 0⟩]) (Classical.propDecidable _) ∧ PtsR w a1 n1 x1 ∧ ShF s0) := ⟨hHv, hpr, w0⟩
  have HKn : Hid (∀ V, Below w.heap.size w V → Blk V w.heap.size [.int .i64 s0.z, .int .i64 s0.zb, .int .i64 s0.b, .int .i64 s0.r] 23 → Calls Try.prog 8 #[] V fun e w' => e = .returned (.bool true) ∧ Below w.heap.size w w' ∧ Blk w' w.heap.size [.int .i64 s0.z, .int .i64 s0.zb, .int .i64 s0.b, .int .i64 s0.r] 23) := fun V hb hs => by
    refine (sknown_any V).mono ?_
    rintro e w' ⟨rfl, hb'⟩
    exact ⟨rfl, hb.trans (hb'.mono hb.size), hs.below hb' hs.lt⟩
  clear hHv hpr hb0 bs0 w0
  unfold shL
  cases hv with
  | true =>
    rw [show trB true = 1 from rfl] at HHv
    go_enter Try.func3, Try.ntmps3
    go_wp2_with (first
      | (go_at_call 7; refine HHv.out.mono ?_; rintro e W1 ⟨rfl, hb1, bs1⟩)
      | (go_at_call 8; refine (HKn.out _ hb1 bs1).mono ?_; rintro e W2 ⟨rfl, hb2, _⟩))
    go_ret
    exact ⟨rfl, hb2⟩
  | false =>
    rw [show trB false = 0 from rfl] at HHv
    have HL : Hid (SmallS s0 ∧ n1 ≤ 30 ∧ (∀ p ∈ x1, p.d.length ≤ 200) ∧ PtsIn (fun x => x < w.heap.size) w a1 n1 x1 ∧ x1.length = n1) := by
      have hn := light_one (fun h => by have e := HH.out.1; rw [@decide_eq_true _ (Classical.propDecidable _) h] at e; cases e)
      have hlen := HH.out.2.1.1
      exact ⟨hn.1, by rw [← hlen]; exact hn.2.1, hn.2.2, HH.out.2.1.pts (by rw [← hlen]; have := hn.2.1; omega) (fun p hp => by have := hn.2.2 p hp; omega), hlen⟩
    by_cases hr : RightS s0
    · have HN : Hid (∀ V, Below w.heap.size w V → Blk V w.heap.size [.int .i64 s0.z, .int .i64 s0.zb, .int .i64 s0.b, .int .i64 s0.r] 23 → Calls Try.prog 9 #[.agg #[.int .i64 s0.z, .int .i64 s0.zb, .int .i64 s0.b, .int .i64 s0.r]] V fun e w' => ∃ D k, e = .returned (.pointer (some ⟨k.ps, 0, none⟩)) ∧ (Below w.heap.size w w' ∧ StV D w' k (st0 s0) 0 ∧ ∀ x, StO D k x → V.heap.size ≤ x) ∧ Below V.heap.size V w' ∧ Blk w' w.heap.size [.int .i64 s0.z, .int .i64 s0.zb, .int .i64 s0.b, .int .i64 s0.r] 23) := fun V hb hs => by
        refine (snew_of s0 V (by have := HH.out.2.2.1; exact this.1)).mono ?_
        rintro e w' ⟨hb', ⟨hn, _⟩ | ⟨_, D, k, rfl, h1, h2⟩⟩
        · exact (hn hr).elim
        · exact ⟨D, k, rfl, ⟨hb.trans (hb'.mono hb.size), h1, h2⟩, hb', hs.below hb' hs.lt⟩
      obtain ⟨S, hS⟩ : ∃ S : Nat, s0.b = S := ⟨s0.b.toNat, by have := (pow_bounds (show s0.b ∈ PowR from hr.2.2.2.2.1)).1; omega⟩
      have HS : Hid (s0.b = S ∧ S ≤ 128 ∧ 64 ≤ S ∧ RightS s0) := ⟨hS, by have := HL.out.1.2.2; omega, by have := (pow_bounds (show s0.b ∈ PowR from hr.2.2.2.2.1)).1; omega, hr⟩
      clear hr hS
      go_enter Try.func3, Try.ntmps3
      go_wp2_with (first
        | (go_at_call 7; refine HHv.out.mono ?_; rintro e W1 ⟨rfl, hb1, bs1⟩)
        | (go_at_call 8; refine (HKn.out _ hb1 bs1).mono ?_; rintro e W2 ⟨rfl, hb2, bs2⟩; have sh0 : W2.cell? ⟨w.heap.size, 0, none⟩ = some (.int .i64 s0.z) := bs2.cell 0; have sh1 : W2.cell? ⟨w.heap.size, 1, none⟩ = some (.int .i64 s0.zb) := bs2.cell 1; have sh2 : W2.cell? ⟨w.heap.size, 2, none⟩ = some (.int .i64 s0.b) := bs2.cell 2; have sh3 : W2.cell? ⟨w.heap.size, 3, none⟩ = some (.int .i64 s0.r) := bs2.cell 3)
        | (go_at_call 9; refine (HN.out _ hb2 bs2).mono ?_; rintro e W3 ⟨D, k, rfl, hv3, hb23, bs3⟩; have sh4 : W3.cell? ⟨w.heap.size, 2, none⟩ = some (.int .i64 s0.b) := bs3.cell 2))
      have hwV : w.heap.size < W2.heap.size := bs2.lt
      have HBl : Hid (Calls Try.prog 10 #[.int .i64 s0.b, .slice a1 n1 c1] W3 fun e w' => ∃ A C, e = .returned (.slice A n1 C) ∧ Rd w w' s0 D k (st0 s0) 0 A n1 C (x1.map (blkP S))) := by
        rw [HS.out.1]
        exact rd_blocks hwV hv3.1 bs3 hv3.2.1 hv3.2.2 HL.out.2.2.2.1 (by have := HS.out.2.1; omega)
      clear hwV sh0 sh1 sh2 sh3 bs2 bs1 hb1 hb2 hv3 hb23 bs3 HN HHv HKn
      obtain ⟨l', hl'⟩ : ∃ l', l' = x1.map (blkP S) := ⟨_, rfl⟩
      rw [← hl'] at HBl
      have HLl : Hid (l' = x1.map (blkP S) ∧ l'.length = n1) := ⟨hl', by rw [hl', List.length_map]; exact HL.out.2.2.2.2⟩
      clear hl'
      go_wp2_with (first
        | (go_at_call 10; refine HBl.out.mono ?_; rintro e W4 ⟨A, C, rfl, rd4⟩))
      have HR : Hid (Rd w W4 s0 D k (st0 s0) 0 A n1 C l') := rd4
      have sh5 : W4.cell? ⟨w.heap.size, 2, none⟩ = some (.int .i64 s0.b) := rd4.sh.cell 2
      have hn30 : n1 ≤ 30 := HL.out.2.1
      clear rd4 HBl sh4
      go_loopw [6] (fun x wr => ∃ j : Nat, x = .int .i64 j ∧ j ≤ n1 ∧ Rd w wr s0 D k (st0 s0) 0 A n1 C l' ∧ ∀ i p, i < j → l'[i]? = some p → p.x = true ∨ (p.d.length : Int) = s0.b) (fun x _ => n1 - (intOf x).toNat)
      case atStart => exact ⟨0, rfl, Nat.zero_le _, HR.out, fun i p hi => by omega⟩
      case round =>
        obtain ⟨j, rfl, hj, rd, hok⟩ := hrel
        clear HR sh5
        have HR : Hid (Rd w wr s0 D k (st0 s0) 0 A n1 C l') := rd
        have sh5 : wr.cell? ⟨w.heap.size, 2, none⟩ = some (.int .i64 s0.b) := rd.sh.cell 2
        clear rd
        rcases Nat.lt_or_ge j n1 with hlt | hge
        · have hj' : (j : Int) < n1 := by omega
          have hwj : IntKind.i64.wrap ((j : Int) + 1) = (j : Int) + 1 := by rw [IntKind.wrap_i64]; omega
          obtain ⟨p, b, off, A1, L1, C1, hp, rfl, x0, x1', x2, x3, hbin, _, _, _⟩ := HR.out.at hlt
          have HP : Hid (l'[j]? = some p ∧ p.d.length = L1 ∧ ∀ i q, i < j → l'[i]? = some q → q.x = true ∨ (q.d.length : Int) = s0.b) := ⟨hp, hbin.1, hok⟩
          clear hbin hp hok x0 x1'
          cases hx : p.x with
          | true =>
            rw [hx] at x2
            go_wp2
            go_quiet (fail)
            go_wp2
            go_roundw
            case rel => exact ⟨j + 1, by simp, by omega, HR.out.below (below_drewN _ _), fun i q hi hq => by
              rcases Nat.lt_or_ge i j with h | h
              · exact HP.out.2.2 i q h hq
              · obtain rfl : i = j := by omega
                rw [HP.out.1] at hq
                cases hq
                exact .inl hx⟩
            case measure => simp [intOf]; omega
          | false =>
            rw [hx] at x2
            by_cases hLb : (L1 : Int) = s0.b
            · have hLn : ((L1 : Int) != s0.b) = false := by simp [hLb]
              go_wp2
              go_quiet (fail)
              go_wp2
              go_roundw
              case rel => exact ⟨j + 1, by simp, by omega, HR.out.below (below_drewN _ _), fun i q hi hq => by
                rcases Nat.lt_or_ge i j with h | h
                · exact HP.out.2.2 i q h hq
                · obtain rfl : i = j := by omega
                  rw [HP.out.1] at hq
                  cases hq
                  exact .inr (by rw [HP.out.2.1]; exact hLb)⟩
              case measure => simp [intOf]; omega
            · have hLn : ((L1 : Int) != s0.b) = true := by simp [hLb]
              have hM := put_bad (st := st0 s0) (l := l') (fun ho => by
                have := ho p (List.mem_of_getElem? HP.out.1)
                rw [hx, HP.out.2.1] at this
                exact hLb (this.resolve_left (by decide)))
              have HPu : Hid (∀ nq, Calls Try.prog 11 #[.pointer (some ⟨k.ps, 0, none⟩), .slice (some ⟨b, off, none⟩) n1 C] (wr.drewN nq) fun e w' => e = .returned (.int .u16 1) ∧ ∃ D', Rd w w' s0 D' k (st0 s0) (0 + n1) (some ⟨b, off, none⟩) n1 C l') := by
                intro nq
                have := (HR.out.below (below_drewN wr nq)).put (by omega)
                rw [hM] at this
                exact this
              clear hLb hM
              go_wp2
              go_quiet (fail)
              go_wp2_with (first
                | (go_at_call 11; refine (HPu.out _).mono ?_; rintro e w5 ⟨rfl, D5, rd5⟩; have hq5 := sseq_of rd5.st)
                | (go_at_call 12; refine hq5.mono ?_; rintro e w6 ⟨rfl, rfl⟩))
              go_ret
              exact ⟨rfl, rd5.bel⟩
        · obtain rfl : j = n1 := by omega
          have HO : Hid (okP s0 l') := fun p hp => by
            obtain ⟨i, hi⟩ := List.getElem?_of_mem hp
            exact hok i p (by have := (List.getElem?_eq_some_iff.1 hi).1; rw [HLl.out.2] at this; exact this) hi
          have hfit : ∀ p ∈ l', p.Fits := by obtain ⟨X, h1, _⟩ := HR.out.pts; exact h1.fits
          obtain ⟨m, r, hm1, hm2, hm3, hm4, hm5, hm6⟩ := put_new HS.out.2.2.2 hfit HO.out
          obtain ⟨eP, heP⟩ : ∃ eP, eP = (putM (st0 s0) l').1 := ⟨_, rfl⟩
          obtain ⟨sP, hsP⟩ : ∃ sP, sP = (putM (st0 s0) l').2 := ⟨_, rfl⟩
          have HPu : Hid (Calls Try.prog 11 #[.pointer (some ⟨k.ps, 0, none⟩), .slice A j C] wr fun e w' => e = .returned (.int .u16 eP) ∧ ∃ D', Rd w w' s0 D' k sP (0 + j) A j C l') := by
            rw [heP, hsP]
            exact HR.out.put (by omega)
          rw [← heP] at hm6
          rw [← hsP] at hm3 hm4 hm5
          have HI : Hid (Inv sP ∧ (eP = 0 → memT sP = l'.foldl updP (fun _ => none))) := ⟨hm3, fun h0 => by
            rcases hm6 with ⟨_, h, _⟩ | h
            · rw [hm5, h, List.take_length]
            · rw [h] at h0; cases h0⟩
          clear hm1 hm2 hm3 hm4 hm5 hm6 heP hsP hok hfit
          by_cases h0 : eP = 0
          · subst h0
            go_wp2_with (first
              | (go_at_call 11; refine HPu.out.mono ?_; rintro e w5 ⟨rfl, D5, rd5⟩))
            have HR5 : Hid (Rd w w5 s0 D5 k sP (0 + j) A j C l') := rd5
            clear rd5 HPu HR
            have HMm := HI.out.2 (by trivial)
            have HI2 : Hid (Inv sP ∧ memT sP = l'.foldl updP (fun _ => none)) := ⟨HI.out.1, HMm⟩
            clear HMm HI
            go_loopw [7] (fun x wr => ∃ i : Nat, x = .int .i64 i ∧ i ≤ j ∧ Rd w wr s0 D5 k sP (0 + j) A j C l') (fun x _ => j - (intOf x).toNat)
            case atStart => exact ⟨0, rfl, Nat.zero_le _, HR5.out⟩
            case round =>
              obtain ⟨i, rfl, hi, rdi⟩ := hrel
              rcases Nat.lt_or_ge i j with hlt | hge2
              · have hi' : (i : Int) < j := by omega
                have hwi : IntKind.i64.wrap ((i : Int) + 1) = (i : Int) + 1 := by rw [IntKind.wrap_i64]; omega
                have rb := rdi.b
                obtain ⟨p, b, off, A1, L1, C1, hp, rfl, hbB, x0, x1', x2, x3, hbin, hnil1, hL1, hfit, hA1⟩ := rb.at hlt
                obtain ⟨g, hg⟩ : ∃ g, g = wr.heap.size := ⟨_, rfl⟩
                rw [← hg] at rb hbB hA1
                have hbV : Below wr.heap.size wr (wr.alloc (.cells #[.int .u32 p.t, .int .u64 p.b, .bool p.x, .slice A1 L1 C1] 37)) := (Below.refl _ _).alloc (Nat.le_refl _) _
                have HV : Hid (RdB w (wr.alloc (.cells #[.int .u32 p.t, .int .u64 p.b, .bool p.x, .slice A1 L1 C1] 37)) s0 D5 k sP (0 + j) (some ⟨b, off, none⟩) j C l' g ∧ Blk (wr.alloc (.cells #[.int .u32 p.t, .int .u64 p.b, .bool p.x, .slice A1 L1 C1] 37)) g [.int .u32 p.t, .int .u64 p.b, .bool p.x, .slice A1 L1 C1] 37 ∧ BIn (wr.alloc (.cells #[.int .u32 p.t, .int .u64 p.b, .bool p.x, .slice A1 L1 C1] 37)) A1 L1 p.d) := ⟨rb.below hbV, Blk.new' hg.symm rfl, hbin.below hbV⟩
                have HP : Hid (l'[i]? = some p ∧ p.Fits ∧ (L1 ≠ 0 → ∀ y, A1.map (·.block) = some y → y < g) ∧ (A1 = none → L1 = 0 ∧ C1 = 0)) := ⟨hp, hfit, hA1, hnil1⟩
                clear hp hfit hA1 hbin hbV rb rdi hnil1 hL1 hbB
                go_wp2
                rw [← hg]
                clear x0 x1' x2 x3 hg
                generalize World.alloc wr _ = V at HV ⊢
                go_loopw [9] (fun x wr => ∃ (m : Nat) (q : Pt) (Aq : Option Addr) (Lq Cq : Nat), x = .int .i64 m ∧ i ≤ m ∧ m ≤ j ∧ RdB w wr s0 D5 k sP (0 + j) (some ⟨b, off, none⟩) j C l' g ∧ Blk wr g [.int .u32 q.t, .int .u64 q.b, .bool q.x, .slice Aq Lq Cq] 37 ∧ BIn wr Aq Lq q.d ∧ (Lq ≠ 0 → ∀ y, Aq.map (·.block) = some y → y < g) ∧ q.Fits ∧ (m = i → q = p) ∧ (i < m → lastA p.n (l'.take m) = some q)) (fun x _ => j - (intOf x).toNat)
                case atStart => exact ⟨i, p, A1, L1, C1, rfl, Nat.le_refl _, by omega, HV.out.1, HV.out.2.1, HV.out.2.2, HP.out.2.2.1, HP.out.2.1, fun _ => rfl, fun h => by omega⟩
                case round =>
                  obtain ⟨m, q, Aq, Lq, Cq, rfl, him, hmj, rb, bq, hbq, haq, hfq, hq1, hq2⟩ := hrel
                  rcases Nat.lt_or_ge m j with hlt2 | hge3
                  · have hm' : (m : Int) < j := by omega
                    have hwm : IntKind.i64.wrap ((m : Int) + 1) = (m : Int) + 1 := by rw [IntKind.wrap_i64]; omega
                    obtain ⟨p2, b2, off2, A2, L2, C2, hp2, e2, _, y0, y1, y2, y3, hbin2, _, _, hfit2, hA2⟩ := rb.at hlt2
                    cases e2
                    obtain ⟨p3, b3, off3, A3, L3, C3, hp3, e3, _, z0, z1, _⟩ := rb.at hlt
                    cases e3
                    rw [HP.out.1] at hp3
                    cases hp3
                    have ht : l'.take (m + 1) = l'.take m ++ [p2] := take_snoc hp2
                    have HQ : Hid (RdB w wr s0 D5 k sP (0 + j) (some ⟨b, off, none⟩) j C l' g ∧ Blk wr g [.int .u32 q.t, .int .u64 q.b, .bool q.x, .slice Aq Lq Cq] 37 ∧ BIn wr Aq Lq q.d ∧ (Lq ≠ 0 → ∀ y, Aq.map (·.block) = some y → y < g) ∧ q.Fits ∧ (m = i → q = p) ∧ (i < m → lastA p.n (l'.take m) = some q)) := ⟨rb, bq, hbq, haq, hfq, hq1, hq2⟩
                    have HQ2 : Hid (l'[m]? = some p2 ∧ BIn wr A2 L2 p2.d ∧ (L2 ≠ 0 → ∀ y, A2.map (·.block) = some y → y < g) ∧ p2.Fits ∧ l'.take (m + 1) = l'.take m ++ [p2]) := ⟨hp2, hbin2, hA2, hfit2, ht⟩
                    have g0 : wr.cell? ⟨g, 0, none⟩ = some (.int .u32 q.t) := bq.cell 0
                    have g1 : wr.cell? ⟨g, 1, none⟩ = some (.int .u64 q.b) := bq.cell 1
                    have g2 : wr.cell? ⟨g, 2, none⟩ = some (.bool q.x) := bq.cell 2
                    have g3 : wr.cell? ⟨g, 3, none⟩ = some (.slice Aq Lq Cq) := bq.cell 3
                    have f0 := bq.frozen 0
                    have f1 := bq.frozen 1
                    have f2 := bq.frozen 2
                    have f3 := bq.frozen 3
                    clear rb bq hbq haq hfq hq1 hq2 hp2 hbin2 hA2 hfit2 ht
                    by_cases hn : p2.n = p.n
                    · have e1 : p2.t = p.t := congrArg Prod.fst hn
                      have e2 : p2.b = p.b := congrArg Prod.snd hn
                      have HX : Hid (p2.n = p.n) := hn
                      rw [e1] at y0
                      rw [e2] at y1
                      have HE : Hid (p2.t = p.t ∧ p2.b = p.b) := ⟨e1, e2⟩
                      clear hn e1 e2
                      have fin : Hid (∀ nq, ∃ (m' : Nat) (q : Pt) (Aq : Option Addr) (Lq Cq : Nat), Value.int .i64 ((m : Int) + 1) = .int .i64 m' ∧ i ≤ m' ∧ m' ≤ j ∧ RdB w (((((wr.drewN nq).setCell ⟨g, 0, none⟩ (.int .u32 p.t)).setCell ⟨g, 1, none⟩ (.int .u64 p.b)).setCell ⟨g, 2, none⟩ (.bool p2.x)).setCell ⟨g, 3, none⟩ (.slice A2 L2 C2)) s0 D5 k sP (0 + j) (some ⟨b, off, none⟩) j C l' g ∧ Blk (((((wr.drewN nq).setCell ⟨g, 0, none⟩ (.int .u32 p.t)).setCell ⟨g, 1, none⟩ (.int .u64 p.b)).setCell ⟨g, 2, none⟩ (.bool p2.x)).setCell ⟨g, 3, none⟩ (.slice A2 L2 C2)) g [.int .u32 q.t, .int .u64 q.b, .bool q.x, .slice Aq Lq Cq] 37 ∧ BIn (((((wr.drewN nq).setCell ⟨g, 0, none⟩ (.int .u32 p.t)).setCell ⟨g, 1, none⟩ (.int .u64 p.b)).setCell ⟨g, 2, none⟩ (.bool p2.x)).setCell ⟨g, 3, none⟩ (.slice A2 L2 C2)) Aq Lq q.d ∧ (Lq ≠ 0 → ∀ y, Aq.map (·.block) = some y → y < g) ∧ q.Fits ∧ (m' = i → q = p) ∧ (i < m' → lastA p.n (l'.take m') = some q)) := fun nq => by
                        have ho : Out (fun x => g ≤ x) (wr.drewN nq) (((((wr.drewN nq).setCell ⟨g, 0, none⟩ (.int .u32 p.t)).setCell ⟨g, 1, none⟩ (.int .u64 p.b)).setCell ⟨g, 2, none⟩ (.bool p2.x)).setCell ⟨g, 3, none⟩ (.slice A2 L2 C2)) := ((((Out.refl (fun x => g ≤ x) (wr.drewN nq)).setCell (p := ⟨g, 0, none⟩) (.inl (Nat.le_refl _)) _).setCell (p := ⟨g, 1, none⟩) (.inl (Nat.le_refl _)) _).setCell (p := ⟨g, 2, none⟩) (.inl (Nat.le_refl _)) _).setCell (p := ⟨g, 3, none⟩) (.inl (Nat.le_refl _)) _
                        have hr := HQ.out.1.below (below_drewN wr nq)
                        have hbk := ((((HQ.out.2.1.drewN nq).set 0 (.int .u32 p.t)).set 1 (.int .u64 p.b)).set 2 (.bool p2.x)).set 3 (.slice A2 L2 C2)
                        refine ⟨m + 1, p2, A2, L2, C2, by simp, by omega, by omega, hr.out ho, ?_, hr.bin (HQ2.out.2.1.below (below_drewN wr nq)) HQ2.out.2.2.1 ho, HQ2.out.2.2.1, HQ2.out.2.2.2.1, fun h => by omega, fun _ => by rw [HQ2.out.2.2.2.2, lastA_snoc, if_pos HX.out]⟩
                        rw [HE.out.1, HE.out.2]
                        exact hbk
                      go_wp2
                      go_quiet (fail)
                      go_wp2
                      go_roundw
                      case rel => exact fin.out _
                      case measure => simp [intOf]; omega
                    · have hne : p2.t ≠ p.t ∨ (p2.t = p.t ∧ p2.b ≠ p.b) := by
                        by_cases h : p2.t = p.t
                        · exact .inr ⟨h, fun h2 => hn (Prod.ext h h2)⟩
                        · exact .inl h
                      have HX : Hid (p2.n ≠ p.n ∧ m ≠ i) := ⟨hn, fun e => hn (by have := HQ2.out.1; rw [e, HP.out.1] at this; cases this; rfl)⟩
                      clear hn
                      have fin : Hid (∀ nq, ∃ (m' : Nat) (q : Pt) (Aq : Option Addr) (Lq Cq : Nat), Value.int .i64 ((m : Int) + 1) = .int .i64 m' ∧ i ≤ m' ∧ m' ≤ j ∧ RdB w (wr.drewN nq) s0 D5 k sP (0 + j) (some ⟨b, off, none⟩) j C l' g ∧ Blk (wr.drewN nq) g [.int .u32 q.t, .int .u64 q.b, .bool q.x, .slice Aq Lq Cq] 37 ∧ BIn (wr.drewN nq) Aq Lq q.d ∧ (Lq ≠ 0 → ∀ y, Aq.map (·.block) = some y → y < g) ∧ q.Fits ∧ (m' = i → q = p) ∧ (i < m' → lastA p.n (l'.take m') = some q)) := fun nq => ⟨m + 1, q, Aq, Lq, Cq, by simp, by omega, by omega, HQ.out.1.below (below_drewN _ _), HQ.out.2.1.drewN _, HQ.out.2.2.1.below (below_drewN _ _), HQ.out.2.2.2.1, HQ.out.2.2.2.2.1, fun h => by omega, fun _ => by rw [HQ2.out.2.2.2.2, lastA_snoc, if_neg HX.out.1]; exact HQ.out.2.2.2.2.2.2 (by have := HX.out.2; omega)⟩
                      rcases hne with hne | ⟨he, hne⟩
                      · have hd : (p2.t == p.t) = false := by simp [hne]
                        go_wp2
                        go_quiet (fail)
                        go_wp2
                        go_roundw
                        case rel => exact fin.out _
                        case measure => simp [intOf]; omega
                      · rw [he] at y0
                        have hd : (p2.b == p.b) = false := by simp [hne]
                        go_wp2
                        go_quiet (fail)
                        go_wp2
                        go_roundw
                        case rel => exact fin.out _
                        case measure => simp [intOf]; omega
                  · obtain rfl : m = j := by omega
                    have hla : lastA p.n l' = some q := by
                      have := hq2 (by omega)
                      rw [List.take_of_length_le (by rw [HLl.out.2]; exact Nat.le_refl _)] at this
                      exact this
                    have hqn : q.n = p.n := (lastA_name l' hla).1
                    have hmem : memT sP q.n = if q.x = true then none else some q.d := by
                      rw [HI2.out.2, upd_last, hqn, hla]
                    have HG : Hid (Calls Try.prog 13 #[.pointer (some ⟨k.ps, 0, none⟩), .int .u32 q.t, .int .u64 q.b] wr fun e w' => ∃ A9 L9 C9, e = .returned (.tuple #[.slice A9 L9 C9, .bool (!q.x)]) ∧ (q.x = false → BIn w' A9 L9 q.d) ∧ Rd w w' s0 D5 k sP (0 + m) (some ⟨b, off, none⟩) m C l' ∧ Blk w' g [.int .u32 q.t, .int .u64 q.b, .bool q.x, .slice Aq Lq Cq] 37 ∧ BIn w' Aq Lq q.d) := by
                      refine (sget_of rb.st q.n ⟨hfq.1, hfq.2.1⟩ HI2.out.1.plc).mono ?_
                      rintro e w' ⟨v, rfl, bk, hb⟩
                      rw [hmem] at bk ⊢
                      obtain ⟨A9, C9, e9⟩ := own_slice bk.1
                      subst e9
                      refine ⟨A9, ((if q.x = true then none else some q.d : Option (List Int)).getD []).length, C9, ?_, fun hx => ?_, rb.rd.below hb, bq.below hb bq.lt, hbq.below hb⟩
                      · cases hx : q.x <;> simp
                      · have hb9 := bk.bin.1
                        rw [hx] at hb9 ⊢
                        exact hb9
                    have g0 : wr.cell? ⟨g, 0, none⟩ = some (.int .u32 q.t) := bq.cell 0
                    have g1 : wr.cell? ⟨g, 1, none⟩ = some (.int .u64 q.b) := bq.cell 1
                    clear hla hqn hmem hq1 hq2 rb bq hbq haq hfq HV
                    cases hx : q.x with
                    | true =>
                      rw [hx] at HG
                      go_wp2_with (first
                        | (go_at_call 13; refine HG.out.mono ?_; rintro e w8 ⟨A9, L9, C9, rfl, _, rd8, bq8, _⟩; have q2 : w8.cell? ⟨g, 2, none⟩ = some (.bool true) := bq8.cell 2))
                      have H8 : Hid (Rd w w8 s0 D5 k sP (0 + m) (some ⟨b, off, none⟩) m C l') := rd8
                      clear rd8 bq8
                      go_wp2
                      go_roundw
                      case rel => exact ⟨i + 1, by simp, by omega, H8.out⟩
                      case measure => simp [intOf]; omega
                    | false =>
                      rw [hx] at HG
                      go_wp2_with (first
                        | (go_at_call 13; refine HG.out.mono ?_; rintro e w8 ⟨A9, L9, C9, rfl, hb9, rd8, bq8, hbq8⟩; have q2 : w8.cell? ⟨g, 2, none⟩ = some (.bool false) := bq8.cell 2; have q3 : w8.cell? ⟨g, 3, none⟩ = some (.slice Aq Lq Cq) := bq8.cell 3; have hsb := sameBytes_of A9 L9 C9 q.d Aq Lq Cq w8 (hb9 rfl) hbq8; have H8 : Hid (Rd w w8 s0 D5 k sP (0 + m) (some ⟨b, off, none⟩) m C l') := rd8; clear rd8 bq8 hbq8 hb9)
                        | (go_at_call 14; refine hsb.mono ?_; rintro e w9 ⟨rfl, rfl⟩))
                      go_roundw
                      case rel => exact ⟨i + 1, by simp, by omega, H8.out⟩
                      case measure => simp [intOf]; omega
              · obtain rfl : i = j := by omega
                have HB5 : Hid (Below w.heap.size w wr) := rdi.bel
                clear rdi
                go_wp2
                go_ret
                exact ⟨rfl, HB5.out⟩
          · have h0' : (eP != 0) = true := by simp [h0]
            go_wp2_with (first
              | (go_at_call 11; refine HPu.out.mono ?_; rintro e w5 ⟨rfl, D5, rd5⟩))
            go_ret
            exact ⟨rfl, rd5.bel⟩
    · have HN : Hid (∀ V, Below w.heap.size w V → Calls Try.prog 9 #[.agg #[.int .i64 s0.z, .int .i64 s0.zb, .int .i64 s0.b, .int .i64 s0.r]] V fun e w' => e = .returned (.pointer none) ∧ Below w.heap.size w w' ∧ ∀ b L t, Blk V b L t → Blk w' b L t) := fun V hb => by
        refine (snew_of s0 V (by have := HH.out.2.2.1; exact this.1)).mono ?_
        rintro e w' ⟨hb', ⟨_, rfl⟩ | ⟨hh, _⟩⟩
        · exact ⟨rfl, hb.trans (hb'.mono hb.size), fun b L t h => h.below hb' h.lt⟩
        · exact (hr hh).elim
      go_enter Try.func3, Try.ntmps3
      go_wp2_with (first
        | (go_at_call 7; refine HHv.out.mono ?_; rintro e W1 ⟨rfl, hb1, bs1⟩)
        | (go_at_call 8; refine (HKn.out _ hb1 bs1).mono ?_; rintro e W2 ⟨rfl, hb2, bs2⟩; have sh0 : W2.cell? ⟨w.heap.size, 0, none⟩ = some (.int .i64 s0.z) := bs2.cell 0; have sh1 : W2.cell? ⟨w.heap.size, 1, none⟩ = some (.int .i64 s0.zb) := bs2.cell 1; have sh2 : W2.cell? ⟨w.heap.size, 2, none⟩ = some (.int .i64 s0.b) := bs2.cell 2; have sh3 : W2.cell? ⟨w.heap.size, 3, none⟩ = some (.int .i64 s0.r) := bs2.cell 3)
        | (go_at_call 9; refine (HN.out _ hb2).mono ?_; rintro e W3 ⟨rfl, hb3, _⟩))
      go_ret
      exact ⟨rfl, hb3⟩

set_option maxRecDepth 100000 in
theorem lifted (os : Os) (started : os.Started) (H : Type) (enc : TypeId × Value → H) :
    ReturnsInHanded {} Try.checked os 3 .any (Rows.storeReadsSpec.pre6 enc Try.prog Try.f3 Rows.storeReadsRow.domain false) (Rows.storeReadsSpec.post enc Try.prog Try.f3 false true false false) := by
  refine returnsInHanded_of_change (C := Try.checked) own started (by kernel_rfl) Try.func3
    (ChangeSpec.witness6 (enc := enc) (C := Try.checked) false ⟨#[], #[.agg #[.int .i64 0, .int .i64 0, .int .i64 0, .int .i64 0], .slice none 0 0], []⟩ 8 (by kernel_rfl) (by kernel_rfl) (by kernel_rfl) (by kernel_rfl)) ?_
  intro W base args ds gs before hval0 hW hcnd _
  have hval : ∀ (j : Nat) t v, Try.f3.params[j]? = some t → args[j]? = some v → Value.okWide Try.prog W .any base t v := hval0
  have hW' := hW
  obtain ⟨p, q, hA0, hV, rfl, hfz, hnd⟩ := hW
  have hA : DataW.TrodAll enc Try.prog W 0 (fun _ => true) true Try.f3.params.toList args.toList ds p := hA0
  rw [Try.params3] at hA hval
  obtain ⟨v0, vs0, d0, ds0, p0, q0, hargs, rfl, rfl, h0, r0⟩ := trodAll_cons hA
  obtain ⟨v1, vs1, d1, ds1, p1, q1, rfl, rfl, rfl, h1, r1⟩ := trodAll_cons r0
  obtain ⟨rfl, rfl, rfl⟩ := trodAll_nil r1
  obtain rfl : args = #[v0, v1] := by cases args; simp_all
  obtain ⟨rfl, rfl⟩ := trodVars_none hV
  have k0 := h0
  have lt0 : ∀ x ∈ p0, x.block < W.heap.size := by obtain ⟨m, hm⟩ := k0; exact DataW.trod_lt m _ _ _ hm
  obtain ⟨s0, rfl, w0⟩ := open_shape (hval 0 23 v0 rfl rfl) h0
  obtain ⟨a1, n1, c1, rfl⟩ := okWide_slice Try.underlying24 (hval 1 24 v1 rfl rfl)
  have k1 := h1
  have lt1 : ∀ x ∈ p1, x.block < W.heap.size := by obtain ⟨m, hm⟩ := k1; exact DataW.trod_lt m _ _ _ hm
  obtain ⟨x1, w1⟩ := open_puts h1
  clear hA0 hval0
  refine (walk s0 a1 n1 c1 x1 W w0 w1).mono fun e W' ⟨he, bel⟩ => ?_
  subst he
  exact ⟨_, rfl, _, _, _, [], _, [], hW', trodAll_mk1 (shut_bool Try.underlying4 _), (trodAll_cons_mk (Below.trod laidOut (by kernel_rfl) (of_decide_eq_true (by kernel_rfl)) k0 bel lt0) (trodAll_cons_mk (Below.trod laidOut (by kernel_rfl) (of_decide_eq_true (by kernel_rfl)) k1 bel lt1) trodAll_mk0)), rfl, bel.frame _, fun h => by cases h⟩

theorem over : Rows.storeReadsRow.holds Try.pinned (OpenSpec.ofChange Rows.storeReadsSpec) :=
  OpenClaim.holds_of_wide 3 Try.f3 rfl rfl rfl rfl rfl rfl rfl ⟨rfl, rfl, rfl, rfl, rfl⟩ rfl rfl rfl rfl rfl (by kernel_rfl) Try.func3 (by kernel_rfl)
    (of_decide_eq_true (by kernel_rfl)) (by unfold Func.isWrapper; first | (rw [if_pos (by decide +kernel)]; kernel_rfl) | (rw [if_neg (by decide +kernel)]; exact ⟨rfl, rfl⟩))
    (fun os started H enc _ => lifted os started H enc)

end Go.Proofs.Ytjjpkjphghclpaa.storeReads
namespace Go.Proofs.Ytjjpkjphghclpaa
/-- The statement. -/
theorem storeReads_holds : Rows.StoreReadsSaid := storeReads.over
#print axioms storeReads_holds
end Go.Proofs.Ytjjpkjphghclpaa
