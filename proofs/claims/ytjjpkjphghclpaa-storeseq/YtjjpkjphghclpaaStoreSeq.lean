/- For every shape and all calls: the number of the last record grows by at least one for each list that is put and is not empty, and at most by one for each block of it; a list that is refused for its lengths changes neither the number nor what the device holds. -/
import Derived.Test.YtjjpkjphghclpaaRows
import Derived.Test.YtjjpkjphghclpaaJ26
import Derived.BigQuiet
import Derived.WalkKit
import Derived.ProofKit
import Derived.OpenShut
import Derived.ShutString
import Derived.ChangeOld
import Derived.Below
namespace Go.Proofs.Ytjjpkjphghclpaa.storeSeq
open Go.ChangeShapes Go.WideShapes Go.ChangeAt Go.RowKit
open Go.ChangeMaps (open_string shut_string)
set_option linter.unusedVariables false

theorem own : ownKnob Try.prog.godebug = none := by kernel_rfl
theorem laidOut : laidOutB Try.prog = true := by kernel_rfl

set_option maxRecDepth 20000 in
set_option maxHeartbeats 8000000 in
theorem walk (s0 : Sh) (a1 : Option Addr) (n1 c1 : Nat) (x1 : List Od) (w : World) (w0 : ShF s0) (w1 : OdsR w a1 n1 x1 ∧ n1 ≤ c1 ∧ (a1 = none → n1 = 0 ∧ c1 = 0) ∧ ∀ o ∈ x1, Fits8 o.k ∧ F64 o.z) :
    Calls Try.prog 5 #[.agg (shL s0).toArray, .slice a1 n1 c1] w fun e w' => e = .returned (.bool true) ∧ Below w.heap.size w w' := by
  obtain ⟨hpr, hnc, hnil, hof⟩ := w1
  have hb0 : Below w.heap.size w (w.alloc (.cells #[.int .i64 s0.z, .int .i64 s0.zb, .int .i64 s0.b, .int .i64 s0.r] 23)) := (Below.refl _ _).alloc (Nat.le_refl _) _
  have bs0 : Blk (w.alloc (.cells #[.int .i64 s0.z, .int .i64 s0.zb, .int .i64 s0.b, .int .i64 s0.r] 23)) w.heap.size (shC s0) 23 := Blk.new' rfl rfl
  obtain ⟨hv, hHv⟩ : ∃ b, b = @decide (HvO s0 x1) (Classical.propDecidable _) := ⟨_, rfl⟩
  have HHv : Hid (Calls Try.prog 7 #[.agg #[.int .i64 s0.z, .int .i64 s0.zb, .int .i64 s0.b, .int .i64 s0.r], .slice a1 n1 c1] (w.alloc (.cells #[.int .i64 s0.z, .int .i64 s0.zb, .int .i64 s0.b, .int .i64 s0.r] 23)) fun e w' => e = .returned (.int .i64 (trB hv)) ∧ Below w.heap.size w w' ∧ Blk w' w.heap.size (shC s0) 23) := by
    rw [hHv]
    refine (Heavy_of s0 a1 n1 c1 x1 _ (hpr.below hb0)).mono ?_
    rintro e w' ⟨rfl, hb⟩
    exact ⟨rfl, hb0.trans (hb.mono hb0.size), bs0.below hb bs0.lt⟩
  have HH : Hid (hv = @decide (HvO s0 x1) (Classical.propDecidable _) ∧ OdsR w a1 n1 x1 ∧ ShF s0) := ⟨hHv, hpr, w0⟩
  have HKn : Hid (∀ V, Below w.heap.size w V → Blk V w.heap.size (shC s0) 23 → Calls Try.prog 8 #[] V fun e w' => e = .returned (.bool true) ∧ Below w.heap.size w w' ∧ Blk w' w.heap.size (shC s0) 23) := fun V hb hs => by
    refine (sknown_any V).mono ?_
    rintro e w' ⟨rfl, hb'⟩
    exact ⟨rfl, hb.trans (hb'.mono hb.size), hs.below hb' hs.lt⟩
  have hn1 := hpr.2.1
  clear hHv hpr hb0 bs0 w0 hof
  unfold shL
  cases hv with
  | true =>
    rw [show trB true = 1 from rfl] at HHv
    go_enter Try.func5, Try.ntmps5
    go_wp2_with (first
      | (go_at_call 7; refine HHv.out.mono ?_; rintro e W1 ⟨rfl, hb1, bs1⟩)
      | (go_at_call 8; refine (HKn.out _ hb1 bs1).mono ?_; rintro e W2 ⟨rfl, hb2, _⟩))
    go_ret
    exact ⟨rfl, hb2⟩
  | false =>
    rw [show trB false = 0 from rfl] at HHv
    have HL : Hid (SmallS s0 ∧ n1 ≤ 40 ∧ (∀ o ∈ x1, o.l.length ≤ 30 ∧ ∀ p ∈ o.l, p.d.length ≤ 200)) := by
      have hn := light_ops (fun h => by have e := HH.out.1; rw [@decide_eq_true _ (Classical.propDecidable _) h] at e; cases e)
      have hlen := HH.out.2.1.1
      exact ⟨hn.1, by rw [← hlen]; exact hn.2.1, hn.2.2⟩
    by_cases hr : RightS s0
    · have HN : Hid (∀ V, Below w.heap.size w V → Blk V w.heap.size (shC s0) 23 → Calls Try.prog 9 #[.agg #[.int .i64 s0.z, .int .i64 s0.zb, .int .i64 s0.b, .int .i64 s0.r]] V fun e w' => ∃ D k, e = .returned (.pointer (some ⟨k.ps, 0, none⟩)) ∧ Sq w w' s0 D k (st0 s0) 0 0) := fun V hb hs => by
        refine (snew_of s0 V (by have := HH.out.2.2.1; exact this.1)).mono ?_
        rintro e w' ⟨hb', ⟨hn, _⟩ | ⟨_, D, k, rfl, h1, h2⟩⟩
        · exact (hn hr).elim
        · exact ⟨D, k, rfl, h1, hb.trans (hb'.mono hb.size), hs.below hb' hs.lt, fun x hx => by have := h2 x hx; have := hs.lt; omega, st0_inv hr, rfl, ⟨by show (0 : Int) ≤ 0; omega, by show (0 : Int) ≤ _; omega⟩, by omega⟩
      obtain ⟨S, hS⟩ : ∃ S : Nat, s0.b = S := ⟨s0.b.toNat, by have := (pow_bounds (show s0.b ∈ PowR from hr.2.2.2.2.1)).1; omega⟩
      have HS : Hid (s0.b = S ∧ S ≤ 128 ∧ 64 ≤ S ∧ RightS s0) := ⟨hS, by have := HL.out.1.2.2; omega, by have := (pow_bounds (show s0.b ∈ PowR from hr.2.2.2.2.1)).1; omega, hr⟩
      clear hr hS
      go_enter Try.func5, Try.ntmps5
      go_wp2_with (first
        | (go_at_call 7; refine HHv.out.mono ?_; rintro e W1 ⟨rfl, hb1, bs1⟩)
        | (go_at_call 8; refine (HKn.out _ hb1 bs1).mono ?_; rintro e W2 ⟨rfl, hb2, bs2⟩; have sh0 : W2.cell? ⟨w.heap.size, 0, none⟩ = some (.int .i64 s0.z) := bs2.cell 0; have sh1 : W2.cell? ⟨w.heap.size, 1, none⟩ = some (.int .i64 s0.zb) := bs2.cell 1; have sh2 : W2.cell? ⟨w.heap.size, 2, none⟩ = some (.int .i64 s0.b) := bs2.cell 2; have sh3 : W2.cell? ⟨w.heap.size, 3, none⟩ = some (.int .i64 s0.r) := bs2.cell 3)
        | (go_at_call 9; refine (HN.out _ hb2 bs2).mono ?_; rintro e W3 ⟨D, k, rfl, hv3⟩))
      have H3 : Hid (Sq w W3 s0 D k (st0 s0) 0 0) := hv3
      clear sh0 sh1 sh2 sh3 bs2 bs1 hb1 hb2 hv3 HN HHv HKn
      go_loopw [6] (fun x wr => ∃ (i : Nat) (D' : Nat → Prop) (st : St) (c : Nat), x = .int .i64 i ∧ i ≤ n1 ∧ Sq w wr s0 D' k st c i) (fun x _ => n1 - (intOf x).toNat)
      case atStart => exact ⟨0, D, st0 s0, 0, rfl, Nat.zero_le _, H3.out⟩
      case round =>
        obtain ⟨i, D', st, c, rfl, hi, sq⟩ := hrel
        have hn40 : n1 ≤ 40 := HL.out.2.1
        rcases Nat.lt_or_ge i n1 with hlt | hge
        · have hi' : (i : Int) < n1 := by omega
          have hwi : IntKind.i64.wrap ((i : Int) + 1) = (i : Int) + 1 := by rw [IntKind.wrap_i64]; omega
          obtain ⟨o, b0, off, ho, rfl, A, N, C, hcl, hpts, hNC, _⟩ := HH.out.2.1.at hlt
          have hol := HL.out.2.2 o (List.mem_of_getElem? ho)
          have hNl : o.l.length = N := hpts.1
          have hN30 : N ≤ 30 := by rw [← hNl]; exact hol.1
          have hptw : PtsIn (fun x => x < w.heap.size) w A N o.l := hpts.pts (by omega) (fun p hp => by have := hol.2 p hp; omega)
          have hlc : ∀ V, Below w.heap.size w V → V.cell? ⟨b0, off + i * 3 + 1, none⟩ = some (.slice A N C) := fun V hb => (hb.cell (old_block (hcl 1 _ rfl))).trans (hcl 1 _ rfl)
          obtain ⟨l', hl'⟩ : ∃ l', l' = o.l.map (blkP S) := ⟨_, rfl⟩
          have hl'n : l'.length = N := by rw [hl', List.length_map]; exact hNl
          have hput := put_seq (l := l') sq.inv (by rw [hl']; exact map_fits hptw.fits) ⟨sq.qb.1, by have := sq.qb.2; omega⟩ (by omega)
          have xl : wr.cell? ⟨b0, off + i * 3 + 1, none⟩ = some (.slice A N C) := hlc wr sq.bel
          have xs : wr.cell? ⟨w.heap.size, 2, none⟩ = some (.int .i64 s0.b) := sq.sh.cell 2
          have HBl : Hid (Calls Try.prog 10 #[.int .i64 s0.b, .slice A N C] wr.drew fun e w' => ∃ A' C', e = .returned (.slice A' N C') ∧ Rd w w' s0 D' k st c A' N C' l' ∧ w'.cell? ⟨w.heap.size, 2, none⟩ = some (.int .i64 s0.b) ∧ w'.cell? ⟨b0, off + i * 3 + 1, none⟩ = some (.slice A N C)) := by
            rw [HS.out.1]
            refine ((sq.below (Below.refl _ _).drew).blocks (C := C) hptw (by have := HS.out.2.1; omega)).mono ?_
            rintro e w' ⟨A', C', rfl, rd⟩
            rw [← hl'] at rd
            exact ⟨A', C', rfl, rd, by rw [← HS.out.1]; exact rd.sh.cell 2, hlc w' rd.bel⟩
          have HSq : Hid (Sq w wr s0 D' k st c i) := sq
          have hsq := sseq_of sq.sv
          have HPt : Hid (((putM st l').1 = 1 ∧ (putM st l').2 = st) ∨ ∃ r : Nat, (putM st l').2.q = st.q + r ∧ r ≤ l'.length ∧ (((putM st l').1 = 0 ∧ (0 < l'.length → 0 < r)) ∨ (putM st l').1 = 160) ∧ Inv (putM st l').2 ∧ (putM st l').2.s = st.s) := hput
          have HN2 : Hid (l'.length = N) := hl'n
          clear sq hput hl' hl'n hlc hptw hpts hcl ho hol hNl
          obtain ⟨q, hq⟩ : ∃ q, q = st.q := ⟨_, rfl⟩
          rw [← hq] at hsq
          have HQ : Hid (q = st.q) := hq
          clear hq
          go_wp2_with (go_at_call 12; refine hsq.mono ?_; rintro e w1' ⟨rfl, rfl⟩)
          go_region_held3 (fun Y => Y.cell? ⟨w.heap.size, 2, none⟩ = some (.int .i64 s0.b) ∧ Y.cell? ⟨b0, off + i * 3 + 1, none⟩ = some (.slice A N C)) (first | exact ⟨xs, xl⟩ | exact ⟨ys, yl⟩)
            (first | (go_simp; go_at_call 10; refine HBl.out.mono ?_; rintro e V2 ⟨A', C', rfl, rd2, ys, yl⟩))
          have HR2 : Hid (Rd w V2 s0 D' k st c A' N C' l') := rd2
          have hdv := sdev_of rd2.st
          have HZn : Hid (Calls Try.prog 18 #[.pointer (some ⟨k.pd, 0, none⟩)] V2 fun e w' => ∃ Az Cz, e = .returned (.slice Az st.zs.length Cz) ∧ ZsAt (fun x => V2.heap.size ≤ x) w' (.slice Az st.zs.length Cz) st.zs ∧ Below V2.heap.size V2 w') := by
            refine (zones_of rd2.st.dv rd2.st.wf).mono ?_
            rintro e w' ⟨v, rfl, hz, hb⟩
            obtain ⟨Az, Cz, rfl⟩ := hz.slice
            exact ⟨Az, Cz, rfl, hz, hb⟩
          obtain ⟨eP, heP⟩ : ∃ eP, eP = (putM st l').1 := ⟨_, rfl⟩
          obtain ⟨sP, hsP⟩ : ∃ sP, sP = (putM st l').2 := ⟨_, rfl⟩
          obtain ⟨ZN, hZN⟩ : ∃ ZN, ZN = st.zs.length := ⟨_, rfl⟩
          rw [← hZN] at HZn
          have HPu : Hid (∀ V3 Az Cz, ZsAt (fun x => V2.heap.size ≤ x) V3 (.slice Az ZN Cz) st.zs → Below V2.heap.size V2 V3 → Calls Try.prog 11 #[.pointer (some ⟨k.ps, 0, none⟩), .slice A' N C'] V3 fun e w' => e = .returned (.int .u16 eP) ∧ (∃ D4, Rd w w' s0 D4 k sP (c + N) A' N C' l') ∧ ZsAt (fun x => V2.heap.size ≤ x) w' (.slice Az ZN Cz) st.zs) := fun V3 Az Cz hz hb => by
            have hc := HSq.out.cb
            have rd3 := HR2.out.below hb
            refine (rd3.put2 (by omega)).mono ?_
            rintro e w' ⟨rfl, hd, ho⟩
            refine ⟨by rw [heP], by rw [hsP]; exact hd, hz.out ho (fun x hx hs => ?_)⟩
            have : x < V2.heap.size := by rcases hs with hs | hs; exact HR2.out.st.lt x hs; exact HR2.out.st.kin x hs
            omega
          have HE : Hid (eP = (putM st l').1 ∧ sP = (putM st l').2 ∧ ZN = st.zs.length ∧ ShortZ st.zs) := ⟨heP, hsP, hZN, rd2.st.wf.short⟩
          clear rd2 ys yl xs xl HBl heP hsP hZN
          rcases HPt.out with ⟨k1, k2⟩ | ⟨r, k1, k2, k3, k4, k5⟩
          · rw [← HE.out.1] at k1
            rw [← HE.out.2.1] at k2
            subst k1
            have HK : Hid (sP = st) := k2
            clear k2
            have hw0 : IntKind.u64.wrap (q - q) = 0 := by rw [Int.sub_self]; rfl
            have hcv : IntKind.u64.wrap (N : Int) = (N : Int) := by rw [IntKind.wrap_u64]; omega
            have hNn : ¬ (N : Int) < 0 := by omega
            go_wp2_with (first
              | (go_at_call 17; refine hdv.mono ?_; rintro e w3 ⟨rfl, rfl⟩)
              | (go_at_call 18; refine HZn.out.mono ?_; rintro e V3 ⟨Az, Cz, rfl, hz3, hb3⟩)
              | (go_at_call 11; refine (HPu.out _ _ _ hz3 hb3).mono ?_; rintro e V4 ⟨rfl, ⟨D4, rd4⟩, hz4⟩; have hq4 := sseq_of rd4.st; rw [HK.out, ← HQ.out] at hq4; have H4 : Hid (Rd w V4 s0 D4 k sP (c + N) A' N C' l' ∧ ZsAt (fun x => w3.heap.size ≤ x) V4 (.slice Az ZN Cz) st.zs) := ⟨rd4, hz4⟩; have hdv4 := sdev_of rd4.st; have HZ5 : Hid (Calls Try.prog 18 #[.pointer (some ⟨k.pd, 0, none⟩)] V4 (ZonesE V4 sP.zs)) := zones_of rd4.st.dv rd4.st.wf; clear rd4 hz4 hz3 hb3)
              | (go_at_call 12; refine hq4.mono ?_; rintro e V5 ⟨rfl, rfl⟩)
              | (go_at_call 17; refine hdv4.mono ?_; rintro e V6 ⟨rfl, rfl⟩)
              | (go_at_call 18; refine HZ5.out.mono ?_; rintro e V7 ⟨v7, rfl, hz7, hb7⟩; obtain ⟨A7, C7, e7⟩ := hz7.slice; subst e7; have hsz := sameZones_of Az ZN Cz A7 sP.zs.length C7 st.zs V7 ((H4.out.2.under hb7).zsin HE.out.2.2.2) (by rw [HK.out] at hz7 ⊢; exact hz7.zsin HE.out.2.2.2); clear hz7)
              | (go_at_call 19; refine hsz.mono ?_; rintro e V8 ⟨rfl, nz, rfl⟩))
            have HF : Hid (Sq w (V7.drewN nz) s0 D4 k sP (c + N) (i + 1)) := by
              have sq := HSq.out
              have r7 := H4.out.1.below hb7
              have hqb := sq.qb
              have hcb := sq.cb
              have : Sq w V7 s0 D4 k sP (c + N) (i + 1) := ⟨r7.st, r7.bel, r7.sh, r7.low, by rw [HK.out]; exact sq.inv, by rw [HK.out]; exact sq.ss, by rw [HK.out]; exact ⟨hqb.1, by have := hqb.2; push_cast; omega⟩, by omega⟩
              exact this.below (below_drewN _ _)
            clear hb7 hdv hdv4
            go_roundw
            case rel => exact ⟨i + 1, D4, sP, c + N, by simp, by omega, HF.out⟩
            case measure => simp [intOf]; omega
          · rw [← HE.out.1] at k3
            rw [← HE.out.2.1] at k1 k4 k5
            have HK : Hid (sP.q = st.q + r ∧ r ≤ N ∧ Inv sP ∧ sP.s = st.s) := ⟨k1, by rw [← HN2.out]; exact k2, k4, k5⟩
            have hrN : r ≤ N := HK.out.2.1
            have hw0 : IntKind.u64.wrap ((q + r) - q) = (r : Int) := by rw [IntKind.wrap_u64]; omega
            have hcv : IntKind.u64.wrap (N : Int) = (N : Int) := by rw [IntKind.wrap_u64]; omega
            have hNr : ¬ (N : Int) < (r : Int) := by omega
            have HFin : Hid (∀ V4 D4, Rd w V4 s0 D4 k sP (c + N) A' N C' l' → Sq w V4 s0 D4 k sP (c + N) (i + 1)) := fun V4 D4 r4 => by
              have sq := HSq.out
              have hqb := sq.qb
              have hcb := sq.cb
              exact ⟨r4.st, r4.bel, r4.sh, r4.low, HK.out.2.2.1, by rw [HK.out.2.2.2]; exact sq.ss, by rw [HK.out.1]; exact ⟨by have := hqb.1; omega, by have := hqb.2; have := HK.out.2.1; push_cast; omega⟩, by omega⟩
            have HQ4 : Hid (∀ V4 D4, Rd w V4 s0 D4 k sP (c + N) A' N C' l' → Calls Try.prog 12 #[.pointer (some ⟨k.ps, 0, none⟩)] V4 fun e w' => e = .returned (.int .u64 (q + r)) ∧ w' = V4) := fun V4 D4 r4 => by
              have := sseq_of r4.st
              rw [HK.out.1, ← HQ.out] at this
              exact this
            have k3' : (eP = 0 ∧ (N = 0 ∨ 0 < r)) ∨ eP = 160 := by
              rcases k3 with ⟨h1, h2⟩ | h1
              · exact .inl ⟨h1, by rw [HN2.out] at h2; omega⟩
              · exact .inr h1
            clear k1 k2 k3 k4 k5
            rcases k3' with ⟨rfl, h0 | h0⟩ | rfl
            · subst h0
              go_wp2_with (first
                | (go_at_call 17; refine hdv.mono ?_; rintro e w3 ⟨rfl, rfl⟩)
                | (go_at_call 18; refine HZn.out.mono ?_; rintro e V3 ⟨Az, Cz, rfl, hz3, hb3⟩)
                | (go_at_call 11; refine (HPu.out _ _ _ hz3 hb3).mono ?_; rintro e V4 ⟨rfl, ⟨D4, rd4⟩, _⟩; have hq4 := HQ4.out _ _ rd4; have H4 : Hid (Rd w V4 s0 D4 k sP (c + 0) A' 0 C' l') := rd4; clear rd4 hz3 hb3)
                | (go_at_call 12; refine hq4.mono ?_; rintro e V5 ⟨rfl, rfl⟩))
              go_roundw
              case rel => exact ⟨i + 1, D4, sP, c + 0, by simp, by omega, HFin.out _ _ H4.out⟩
              case measure => simp [intOf]; omega
            · have hr0 : ((r : Int) == 0) = false := by simp; omega
              have hN0 : (0 : Int) < N := by omega
              go_wp2_with (first
                | (go_at_call 17; refine hdv.mono ?_; rintro e w3 ⟨rfl, rfl⟩)
                | (go_at_call 18; refine HZn.out.mono ?_; rintro e V3 ⟨Az, Cz, rfl, hz3, hb3⟩)
                | (go_at_call 11; refine (HPu.out _ _ _ hz3 hb3).mono ?_; rintro e V4 ⟨rfl, ⟨D4, rd4⟩, _⟩; have hq4 := HQ4.out _ _ rd4; have H4 : Hid (Rd w V4 s0 D4 k sP (c + N) A' N C' l') := rd4; clear rd4 hz3 hb3)
                | (go_at_call 12; refine hq4.mono ?_; rintro e V5 ⟨rfl, rfl⟩))
              go_roundw
              case rel => exact ⟨i + 1, D4, sP, c + N, by simp, by omega, HFin.out _ _ H4.out⟩
              case measure => simp [intOf]; omega
            · go_wp2_with (first
                | (go_at_call 17; refine hdv.mono ?_; rintro e w3 ⟨rfl, rfl⟩)
                | (go_at_call 18; refine HZn.out.mono ?_; rintro e V3 ⟨Az, Cz, rfl, hz3, hb3⟩)
                | (go_at_call 11; refine (HPu.out _ _ _ hz3 hb3).mono ?_; rintro e V4 ⟨rfl, ⟨D4, rd4⟩, _⟩; have hq4 := HQ4.out _ _ rd4; have H4 : Hid (Rd w V4 s0 D4 k sP (c + N) A' N C' l') := rd4; clear rd4 hz3 hb3)
                | (go_at_call 12; refine hq4.mono ?_; rintro e V5 ⟨rfl, rfl⟩))
              go_roundw
              case rel => exact ⟨i + 1, D4, sP, c + N, by simp, by omega, HFin.out _ _ H4.out⟩
              case measure => simp [intOf]; omega
        · obtain rfl : i = n1 := by omega
          have HB5 : Hid (Below w.heap.size w wr) := sq.bel
          clear sq
          go_wp2
          go_ret
          exact ⟨rfl, HB5.out⟩
    · have HN : Hid (∀ V, Below w.heap.size w V → Calls Try.prog 9 #[.agg #[.int .i64 s0.z, .int .i64 s0.zb, .int .i64 s0.b, .int .i64 s0.r]] V fun e w' => e = .returned (.pointer none) ∧ Below w.heap.size w w') := fun V hb => by
        refine (snew_of s0 V (by have := HH.out.2.2.1; exact this.1)).mono ?_
        rintro e w' ⟨hb', ⟨_, rfl⟩ | ⟨hh, _⟩⟩
        · exact ⟨rfl, hb.trans (hb'.mono hb.size)⟩
        · exact (hr hh).elim
      go_enter Try.func5, Try.ntmps5
      go_wp2_with (first
        | (go_at_call 7; refine HHv.out.mono ?_; rintro e W1 ⟨rfl, hb1, bs1⟩)
        | (go_at_call 8; refine (HKn.out _ hb1 bs1).mono ?_; rintro e W2 ⟨rfl, hb2, bs2⟩; have sh0 : W2.cell? ⟨w.heap.size, 0, none⟩ = some (.int .i64 s0.z) := bs2.cell 0; have sh1 : W2.cell? ⟨w.heap.size, 1, none⟩ = some (.int .i64 s0.zb) := bs2.cell 1; have sh2 : W2.cell? ⟨w.heap.size, 2, none⟩ = some (.int .i64 s0.b) := bs2.cell 2; have sh3 : W2.cell? ⟨w.heap.size, 3, none⟩ = some (.int .i64 s0.r) := bs2.cell 3)
        | (go_at_call 9; refine (HN.out _ hb2).mono ?_; rintro e W3 ⟨rfl, hb3⟩))
      go_ret
      exact ⟨rfl, hb3⟩

set_option maxRecDepth 100000 in
theorem lifted (os : Os) (started : os.Started) (H : Type) (enc : TypeId × Value → H) :
    ReturnsInHanded {} Try.checked os 5 .any (Rows.storeSeqSpec.pre6 enc Try.prog Try.f5 Rows.storeSeqRow.domain false) (Rows.storeSeqSpec.post enc Try.prog Try.f5 false true false false) := by
  refine returnsInHanded_of_change (C := Try.checked) own started (by kernel_rfl) Try.func5
    (ChangeSpec.witness6 (enc := enc) (C := Try.checked) false ⟨#[], #[.agg #[.int .i64 0, .int .i64 0, .int .i64 0, .int .i64 0], .slice none 0 0], []⟩ 8 (by kernel_rfl) (by kernel_rfl) (by kernel_rfl) (by kernel_rfl)) ?_
  intro W base args ds gs before hval0 hW hcnd _
  have hval : ∀ (j : Nat) t v, Try.f5.params[j]? = some t → args[j]? = some v → Value.okWide Try.prog W .any base t v := hval0
  have hW' := hW
  obtain ⟨p, q, hA0, hV, rfl, hfz, hnd⟩ := hW
  have hA : DataW.TrodAll enc Try.prog W 0 (fun _ => true) true Try.f5.params.toList args.toList ds p := hA0
  rw [Try.params5] at hA hval
  obtain ⟨v0, vs0, d0, ds0, p0, q0, hargs, rfl, rfl, h0, r0⟩ := trodAll_cons hA
  obtain ⟨v1, vs1, d1, ds1, p1, q1, rfl, rfl, rfl, h1, r1⟩ := trodAll_cons r0
  obtain ⟨rfl, rfl, rfl⟩ := trodAll_nil r1
  obtain rfl : args = #[v0, v1] := by cases args; simp_all
  obtain ⟨rfl, rfl⟩ := trodVars_none hV
  have k0 := h0
  have lt0 : ∀ x ∈ p0, x.block < W.heap.size := by obtain ⟨m, hm⟩ := k0; exact DataW.trod_lt m _ _ _ hm
  obtain ⟨s0, rfl, w0⟩ := open_shape (hval 0 23 v0 rfl rfl) h0
  obtain ⟨a1, n1, c1, rfl⟩ := okWide_slice Try.underlying28 (hval 1 28 v1 rfl rfl)
  have k1 := h1
  have lt1 : ∀ x ∈ p1, x.block < W.heap.size := by obtain ⟨m, hm⟩ := k1; exact DataW.trod_lt m _ _ _ hm
  obtain ⟨x1, w1⟩ := open_sops h1
  clear hA0 hval0
  refine (walk s0 a1 n1 c1 x1 W w0 w1).mono fun e W' ⟨he, bel⟩ => ?_
  subst he
  exact ⟨_, rfl, _, _, _, [], _, [], hW', trodAll_mk1 (shut_bool Try.underlying4 _), (trodAll_cons_mk (Below.trod laidOut (by kernel_rfl) (of_decide_eq_true (by kernel_rfl)) k0 bel lt0) (trodAll_cons_mk (Below.trod laidOut (by kernel_rfl) (of_decide_eq_true (by kernel_rfl)) k1 bel lt1) trodAll_mk0)), rfl, bel.frame _, fun h => by cases h⟩

theorem over : Rows.storeSeqRow.holds Try.pinned (OpenSpec.ofChange Rows.storeSeqSpec) :=
  OpenClaim.holds_of_wide 5 Try.f5 rfl rfl rfl rfl rfl rfl rfl ⟨rfl, rfl, rfl, rfl, rfl⟩ rfl rfl rfl rfl rfl (by kernel_rfl) Try.func5 (by kernel_rfl)
    (of_decide_eq_true (by kernel_rfl)) (by unfold Func.isWrapper; first | (rw [if_pos (by decide +kernel)]; kernel_rfl) | (rw [if_neg (by decide +kernel)]; exact ⟨rfl, rfl⟩))
    (fun os started H enc _ => lifted os started H enc)

end Go.Proofs.Ytjjpkjphghclpaa.storeSeq
namespace Go.Proofs.Ytjjpkjphghclpaa
/-- The statement. -/
theorem storeSeq_holds : Rows.StoreSeqSaid := storeSeq.over
#print axioms storeSeq_holds
end Go.Proofs.Ytjjpkjphghclpaa
