/- For every shape and every list of blocks: blocks that are put at once and blocks that are put one by one, each to a store of its own, are told alike, with the same counts, as long as there was room. -/
import Derived.Test.YtjjpkjphghclpaaRows
import Derived.Test.YtjjpkjphghclpaaJ27
import Derived.BigQuiet
import Derived.Lib.QuietBelow
import Derived.WalkKit
import Derived.ProofKit
import Derived.OpenShut
import Derived.ShutString
import Derived.ChangeOld
import Derived.Below
namespace Go.Proofs.Ytjjpkjphghclpaa.storeParts
open Go.ChangeShapes Go.WideShapes Go.ChangeAt Go.RowKit
open Go.ChangeMaps (open_string shut_string)
set_option linter.unusedVariables false

theorem own : ownKnob Try.prog.godebug = none := by kernel_rfl
theorem laidOut : laidOutB Try.prog = true := by kernel_rfl

set_option maxRecDepth 20000 in
set_option maxHeartbeats 8000000 in
theorem walk (s0 : Sh) (a1 : Option Addr) (n1 c1 : Nat) (x1 : List Pt) (w : World) (w0 : ShF s0) (w1 : PtsR w a1 n1 x1 ∧ n1 ≤ c1 ∧ (a1 = none → n1 = 0 ∧ c1 = 0)) :
    Calls Try.prog 4 #[.agg (shL s0).toArray, .slice a1 n1 c1] w fun e w' => e = .returned (.bool true) ∧ Below w.heap.size w w' := by
  obtain ⟨hpr, hnc, hnil⟩ := w1
  have hb0 : Below w.heap.size w ((w.alloc (.cells #[.int .i64 s0.z, .int .i64 s0.zb, .int .i64 s0.b, .int .i64 s0.r] 23)).alloc (.cells #[.int .u8 0, .slice a1 n1 c1, .int .i64 0] 27)) := ((Below.refl _ _).alloc (Nat.le_refl _) _).alloc (by simp) _
  have bs0 : Blk ((w.alloc (.cells #[.int .i64 s0.z, .int .i64 s0.zb, .int .i64 s0.b, .int .i64 s0.r] 23)).alloc (.cells #[.int .u8 0, .slice a1 n1 c1, .int .i64 0] 27)) w.heap.size [.int .i64 s0.z, .int .i64 s0.zb, .int .i64 s0.b, .int .i64 s0.r] 23 := (Blk.new' rfl rfl).alloc _
  obtain ⟨hv, hHv⟩ : ∃ b, b = @decide (HvO s0 [⟨0, x1, 0⟩]) (Classical.propDecidable _) := ⟨_, rfl⟩
  have HHv : Hid (Calls Try.prog 7 #[.agg #[.int .i64 s0.z, .int .i64 s0.zb, .int .i64 s0.b, .int .i64 s0.r], .slice (some ⟨w.heap.size + 1, 0, none⟩) 1 1] ((w.alloc (.cells #[.int .i64 s0.z, .int .i64 s0.zb, .int .i64 s0.b, .int .i64 s0.r] 23)).alloc (.cells #[.int .u8 0, .slice a1 n1 c1, .int .i64 0] 27)) fun e w' => e = .returned (.int .i64 (trB hv)) ∧ Below w.heap.size w w' ∧ Blk w' w.heap.size [.int .i64 s0.z, .int .i64 s0.zb, .int .i64 s0.b, .int .i64 s0.r] 23) := by
    rw [hHv]
    refine (Heavy_one s0 a1 n1 c1 x1 hpr hnc hnil hb0 (Blk.new' (by simp) rfl)).mono ?_
    rintro e w' ⟨rfl, hb⟩
    exact ⟨rfl, hb0.trans (hb.mono hb0.size), bs0.below hb bs0.lt⟩
  have HH : Hid (hv = @decide (HvO s0 [⟨0, x1, 0⟩]) (Classical.propDecidable _) ∧ PtsR w a1 n1 x1 ∧ ShF s0) := ⟨hHv, hpr, w0⟩
  have HKn : Hid (∀ V, Below w.heap.size w V → Blk V w.heap.size [.int .i64 s0.z, .int .i64 s0.zb, .int .i64 s0.b, .int .i64 s0.r] 23 → Calls Try.prog 8 #[] V fun e w' => e = .returned (.bool true) ∧ Below w.heap.size w w' ∧ Blk w' w.heap.size [.int .i64 s0.z, .int .i64 s0.zb, .int .i64 s0.b, .int .i64 s0.r] 23) := fun V hb hs => by
    refine (sknown_any V).mono ?_
    rintro e w' ⟨rfl, hb'⟩
    exact ⟨rfl, hb.trans (hb'.mono hb.size), hs.below hb' hs.lt⟩
  clear hHv hpr hb0 bs0 w0
  unfold shL
  cases hv with
  | true =>
    rw [show trB true = 1 from rfl] at HHv
    go_enter Try.func4, Try.ntmps4
    go_wp2_with (first
      | (go_at_call 7; refine HHv.out.mono ?_; rintro e W1 ⟨rfl, hb1, bs1⟩)
      | (go_at_call 8; refine (HKn.out _ hb1 bs1).mono ?_; rintro e W2 ⟨rfl, hb2, _⟩))
    go_ret
    exact ⟨rfl, hb2⟩
  | false =>
    rw [show trB false = 0 from rfl] at HHv
    have HL : Hid (SmallS s0 ∧ n1 ≤ 30 ∧ (∀ p ∈ x1, p.d.length ≤ 200) ∧ PtsIn (fun x => x < w.heap.size) w a1 n1 x1 ∧ x1.length = n1) := by
      have hn := light_one (fun h => by have e := HH.out.1; rw [@decide_eq_true _ (Classical.propDecidable _) h] at e; cases e)
      have hlen := HH.out.2.1.1
      exact ⟨hn.1, by rw [← hlen]; exact hn.2.1, hn.2.2, HH.out.2.1.pts (by rw [← hlen]; have := hn.2.1; omega) (fun p hp => by have := hn.2.2 p hp; omega), hlen⟩
    by_cases hr : RightS s0
    · have HN : Hid (∀ V, Below w.heap.size w V → Blk V w.heap.size [.int .i64 s0.z, .int .i64 s0.zb, .int .i64 s0.b, .int .i64 s0.r] 23 → Calls Try.prog 9 #[.agg #[.int .i64 s0.z, .int .i64 s0.zb, .int .i64 s0.b, .int .i64 s0.r]] V fun e w' => ∃ D k, e = .returned (.pointer (some ⟨k.ps, 0, none⟩)) ∧ (Below w.heap.size w w' ∧ StV D w' k (st0 s0) 0 ∧ ∀ x, StO D k x → V.heap.size ≤ x) ∧ Below V.heap.size V w' ∧ Blk w' w.heap.size [.int .i64 s0.z, .int .i64 s0.zb, .int .i64 s0.b, .int .i64 s0.r] 23) := fun V hb hs => by
        refine (snew_of s0 V (by have := HH.out.2.2.1; exact this.1)).mono ?_
        rintro e w' ⟨hb', ⟨hn, _⟩ | ⟨_, D, k, rfl, h1, h2⟩⟩
        · exact (hn hr).elim
        · exact ⟨D, k, rfl, ⟨hb.trans (hb'.mono hb.size), h1, h2⟩, hb', hs.below hb' hs.lt⟩
      obtain ⟨S, hS⟩ : ∃ S : Nat, s0.b = S := ⟨s0.b.toNat, by have := (pow_bounds (show s0.b ∈ PowR from hr.2.2.2.2.1)).1; omega⟩
      have HS : Hid (s0.b = S ∧ S ≤ 128 ∧ 64 ≤ S ∧ RightS s0) := ⟨hS, by have := HL.out.1.2.2; omega, by have := (pow_bounds (show s0.b ∈ PowR from hr.2.2.2.2.1)).1; omega, hr⟩
      clear hr hS
      go_enter Try.func4, Try.ntmps4
      go_wp2_with (first
        | (go_at_call 7; refine HHv.out.mono ?_; rintro e W1 ⟨rfl, hb1, bs1⟩)
        | (go_at_call 8; refine (HKn.out _ hb1 bs1).mono ?_; rintro e W2 ⟨rfl, hb2, bs2⟩; have sh0 : W2.cell? ⟨w.heap.size, 0, none⟩ = some (.int .i64 s0.z) := bs2.cell 0; have sh1 : W2.cell? ⟨w.heap.size, 1, none⟩ = some (.int .i64 s0.zb) := bs2.cell 1; have sh2 : W2.cell? ⟨w.heap.size, 2, none⟩ = some (.int .i64 s0.b) := bs2.cell 2; have sh3 : W2.cell? ⟨w.heap.size, 3, none⟩ = some (.int .i64 s0.r) := bs2.cell 3)
        | (go_at_call 9; refine (HN.out _ hb2 bs2).mono ?_; rintro e W3 ⟨Da, ka, rfl, hv3, hb23, bs3⟩; have th0 : W3.cell? ⟨w.heap.size, 0, none⟩ = some (.int .i64 s0.z) := bs3.cell 0; have th1 : W3.cell? ⟨w.heap.size, 1, none⟩ = some (.int .i64 s0.zb) := bs3.cell 1; have th2 : W3.cell? ⟨w.heap.size, 2, none⟩ = some (.int .i64 s0.b) := bs3.cell 2; have th3 : W3.cell? ⟨w.heap.size, 3, none⟩ = some (.int .i64 s0.r) := bs3.cell 3)
        | (go_at_call 9; refine (HN.out _ hv3.1 bs3).mono ?_; rintro e W4 ⟨Db, kb, rfl, hv4, hb34, bs4⟩; have sh4 : W4.cell? ⟨w.heap.size, 2, none⟩ = some (.int .i64 s0.b) := bs4.cell 2))
      have hwV : w.heap.size < W2.heap.size := bs2.lt
      have HBl : Hid (Calls Try.prog 10 #[.int .i64 s0.b, .slice a1 n1 c1] W4 fun e w' => ∃ A C, e = .returned (.slice A n1 C) ∧ Tw2 w w' s0 Da ka (st0 s0) 0 Db kb (st0 s0) 0 A n1 C (x1.map (blkP S))) := by
        rw [HS.out.1]
        exact tw_blocks hwV hb23.size hv4.1 bs4 (hv3.2.1.under hb34) hv4.2.1 (fun x hx => ⟨hv3.2.2 x hx, by rcases hx with hx | hx; exact hv3.2.1.lt x hx; exact hv3.2.1.kin x hx⟩) hv4.2.2 HL.out.2.2.2.1 (by have := HS.out.2.1; omega)
      clear hwV sh0 sh1 sh2 sh3 th0 th1 th2 th3 bs2 bs1 hb1 hb2 hv3 hb23 bs3 hv4 hb34 bs4 HN HHv HKn
      obtain ⟨l', hl'⟩ : ∃ l', l' = x1.map (blkP S) := ⟨_, rfl⟩
      rw [← hl'] at HBl
      have HLl : Hid (l' = x1.map (blkP S) ∧ l'.length = n1 ∧ ∀ p ∈ l', p.Fits) := ⟨hl', by rw [hl', List.length_map]; exact HL.out.2.2.2.2, by rw [hl']; exact map_fits HL.out.2.2.2.1.fits⟩
      clear hl'
      have hn30 : n1 ≤ 30 := HL.out.2.1
      obtain ⟨eP, heP⟩ : ∃ eP, eP = (putM (st0 s0) l').1 := ⟨_, rfl⟩
      obtain ⟨sP, hsP⟩ : ∃ sP, sP = (putM (st0 s0) l').2 := ⟨_, rfl⟩
      have HI : Hid (eP = 0 → Inv sP ∧ memT sP = l'.foldl updP (fun _ => none)) := fun h0 => by
        by_cases ho : okP s0 l'
        · obtain ⟨m, r, hm1, hm2, hm3, hm4, hm5, hm6⟩ := put_new HS.out.2.2.2 HLl.out.2.2 ho
          rw [← heP] at hm6
          rw [← hsP] at hm3 hm5
          refine ⟨hm3, ?_⟩
          rcases hm6 with ⟨_, h, _⟩ | h
          · rw [hm5, h, List.take_length]
          · rw [h] at h0; cases h0
        · rw [heP, put_bad (st := st0 s0) ho] at h0; cases h0
      have HE : Hid (eP = (putM (st0 s0) l').1 ∧ sP = (putM (st0 s0) l').2) := ⟨heP, hsP⟩
      clear heP hsP
      go_wp2_with (first
        | (go_at_call 10; refine HBl.out.mono ?_; rintro e W5 ⟨A, C, rfl, tw5⟩; have hpu := tw5.putA (by omega); rw [← HE.out.1, ← HE.out.2] at hpu)
        | (go_at_call 11; refine hpu.mono ?_; rintro e W6 ⟨rfl, Da6, tw6⟩))
      have H6 : Hid (Tw2 w W6 s0 Da6 ka sP (0 + n1) Db kb (st0 s0) 0 A n1 C l') := tw6
      clear tw6 tw5 hpu HBl sh4
      go_loopw [8, 9] (fun f x wr => ∃ (i : Nat) (Fv : Int) (Db' : Nat → Prop) (sb : St) (cb : Nat), f = .int .u16 Fv ∧ x = .int .i64 i ∧ i ≤ n1 ∧ cb ≤ i ∧ Tw2 w wr s0 Da6 ka sP (0 + n1) Db' kb sb cb A n1 C l' ∧ (Fv = 0 → Inv sb ∧ memT sb = (l'.take i).foldl updP (fun _ => none))) (fun _ x _ => n1 - (intOf x).toNat)
      case atStart => exact ⟨0, 0, Db, st0 s0, 0, rfl, rfl, Nat.zero_le _, Nat.le_refl _, H6.out, fun _ => ⟨st0_inv HS.out.2.2.2, rfl⟩⟩
      case round =>
        obtain ⟨i, Fv, Db', sb, cb, rfl, rfl, hi, hcb, tw, hF⟩ := hrel
        have fin : Hid (¬ (i < n1 ∧ Fv = 0) → True) := fun _ => trivial
        by_cases hgo : i < n1 ∧ Fv = 0
        · obtain ⟨hlt, rfl⟩ := hgo
          have hi' : (i : Int) < n1 := by omega
          have hwi : IntKind.i64.wrap ((i : Int) + 1) = (i : Int) + 1 := by rw [IntKind.wrap_i64]; omega
          obtain ⟨X, hX1, hX2⟩ := tw.pts
          obtain ⟨p, b, off, hp, rfl, _⟩ := hX1.at X hlt
          have hcap := tw.cap
          have hsl := pslice_one b off n1 C i (by omega)
          have hpb := tw.putB hlt hp (by omega)
          obtain ⟨e2, he2⟩ : ∃ e2, e2 = (putM sb [p]).1 := ⟨_, rfl⟩
          obtain ⟨s2, hs2⟩ : ∃ s2, s2 = (putM sb [p]).2 := ⟨_, rfl⟩
          rw [← he2, ← hs2] at hpb
          have HQ : Hid (e2 = 0 → Inv s2 ∧ memT s2 = (l'.take (i + 1)).foldl updP (fun _ => none)) := fun h0 => by
            have hh := hF rfl
            have := put_one (p := p) (l := l'.take i) hh.1 (HLl.out.2.2 p (List.mem_of_getElem? hp)) hh.2 (by rw [← he2]; exact h0)
            rw [hs2, take_snoc hp]
            exact this
          have HPB : Hid (Calls Try.prog 11 #[.pointer (some ⟨kb.ps, 0, none⟩), .slice (some ⟨b, off + i * 4, none⟩) 1 (C - i)] wr fun e w' => e = .returned (.int .u16 e2) ∧ ∃ Db', Tw2 w w' s0 Da6 ka sP (0 + n1) Db' kb s2 (cb + 1) (some ⟨b, off, none⟩) n1 C l') := hpb
          clear hpb tw hF hX1 hX2 hp he2 hs2 fin
          go_wp2_with (go_at_call 11; refine HPB.out.mono ?_; rintro e w7 ⟨rfl, Db7, tw7⟩)
          have H7 : Hid (Tw2 w w7 s0 Da6 ka sP (0 + n1) Db7 kb s2 (cb + 1) (some ⟨b, off, none⟩) n1 C l') := tw7
          clear tw7
          go_wp2
          go_roundw
          case rel => exact ⟨i + 1, e2, Db7, s2, cb + 1, rfl, by simp, by omega, by omega, H7.out, HQ.out⟩
          case measure => simp [intOf]; omega
        · have HT : Hid (Tw2 w wr s0 Da6 ka sP (0 + n1) Db' kb sb cb A n1 C l' ∧ (Fv = 0 → i = n1 ∧ Inv sb ∧ memT sb = (l'.take i).foldl updP (fun _ => none))) := ⟨tw, fun h => ⟨by omega, hF h⟩⟩
          clear tw hF fin
          by_cases hall : eP = 0 ∧ Fv = 0
          · obtain ⟨rfl, rfl⟩ := hall
            obtain ⟨rfl, hI2, hm2⟩ := HT.out.2 rfl
            have HM : Hid (Inv sP ∧ Inv sb ∧ memT sP = memT sb ∧ sP.S.map (·.1) = sb.S.map (·.1)) := by
              have hh := HI.out (by trivial)
              have hmm : memT sP = memT sb := by rw [hh.2, hm2, List.take_of_length_le (by rw [HLl.out.2.1]; exact Nat.le_refl _)]
              exact ⟨hh.1, hI2, hmm, names_eq hh.1.plc hI2.plc hmm⟩
            clear hI2 hm2 HI hgo
            have HT2 : Hid (Tw2 w wr s0 Da6 ka sP (0 + i) Db' kb sb cb A i C l') := HT.out.1
            clear HT H6
            go_wp2
            obtain ⟨V1, rfl⟩ : ∃ V1 : World, V1 = wr := ⟨_, rfl⟩
            go_loopw [10] (fun x wr => ∃ m : Nat, x = .int .i64 m ∧ m ≤ i ∧ Tw2 w wr s0 Da6 ka sP (0 + i) Db' kb sb cb A i C l') (fun x _ => i - (intOf x).toNat)
            case atStart => exact ⟨0, rfl, Nat.zero_le _, HT2.out⟩
            case round =>
              obtain ⟨m, rfl, hm, tw⟩ := hrel
              rcases Nat.lt_or_ge m i with hlt | hge
              · have hm' : (m : Int) < i := by omega
                have hwm : IntKind.i64.wrap ((m : Int) + 1) = (m : Int) + 1 := by rw [IntKind.wrap_i64]; omega
                obtain ⟨X, hX1, hX2⟩ := tw.pts
                obtain ⟨p, b, off, hp, rfl, _, A1, L1, C1, hcl, _⟩ := hX1.at X hlt
                have hpc : ∀ V, Tw2 w V s0 Da6 ka sP (0 + i) Db' kb sb cb (some ⟨b, off, none⟩) i C l' → V.cell? ⟨b, off + m * 4, none⟩ = some (.int .u32 p.t) ∧ V.cell? ⟨b, off + m * 4 + 1, none⟩ = some (.int .u64 p.b) := fun V tv => by
                  obtain ⟨X, hX1, _⟩ := tv.pts
                  obtain ⟨p', b', off', hp', e', _, A2, L2, C2, hcl, _⟩ := hX1.at X hlt
                  cases e'
                  rw [hp] at hp'
                  cases hp'
                  exact ⟨hcl 0 _ rfl, hcl 1 _ rfl⟩
                obtain ⟨y0, y1⟩ := hpc wr tw
                have hfit := HLl.out.2.2 p (List.mem_of_getElem? hp)
                obtain ⟨B, hB⟩ : ∃ B, B = (memT sP p.n).isSome := ⟨_, rfl⟩
                obtain ⟨E, hE⟩ : ∃ E, E = (memT sP p.n).getD [] := ⟨_, rfl⟩
                obtain ⟨K, hK⟩ : ∃ K : Nat, K = cntS sP.S p.t := ⟨_, rfl⟩
                have HGa : Hid (∀ V, Tw2 w V s0 Da6 ka sP (0 + i) Db' kb sb cb (some ⟨b, off, none⟩) i C l' → Calls Try.prog 13 #[.pointer (some ⟨ka.ps, 0, none⟩), .int .u32 p.t, .int .u64 p.b] V fun e w' => ∃ Ax Lx Cx, e = .returned (.tuple #[.slice Ax Lx Cx, .bool B]) ∧ (BIn w' Ax Lx E ∧ Below V.heap.size V w' ∧ Tw2 w w' s0 Da6 ka sP (0 + i) Db' kb sb cb (some ⟨b, off, none⟩) i C l') ∧ w'.cell? ⟨b, off + m * 4, none⟩ = some (.int .u32 p.t) ∧ w'.cell? ⟨b, off + m * 4 + 1, none⟩ = some (.int .u64 p.b)) := fun V tv => by
                  refine (sget_of tv.va p.n ⟨hfit.1, hfit.2.1⟩ HM.out.1.plc).mono ?_
                  rintro e w' ⟨v, rfl, bk, hb⟩
                  rw [← hB]
                  rw [← hE] at bk
                  obtain ⟨Ax, Cx, e9⟩ := own_slice bk.1
                  subst e9
                  exact ⟨Ax, _, Cx, rfl, ⟨bk.bin.1, hb, tv.below hb⟩, hpc w' (tv.below hb)⟩
                have HGb : Hid (∀ V, Tw2 w V s0 Da6 ka sP (0 + i) Db' kb sb cb (some ⟨b, off, none⟩) i C l' → Calls Try.prog 13 #[.pointer (some ⟨kb.ps, 0, none⟩), .int .u32 p.t, .int .u64 p.b] V fun e w' => ∃ Ax Lx Cx, e = .returned (.tuple #[.slice Ax Lx Cx, .bool B]) ∧ (BIn w' Ax Lx E ∧ Below V.heap.size V w' ∧ Tw2 w w' s0 Da6 ka sP (0 + i) Db' kb sb cb (some ⟨b, off, none⟩) i C l') ∧ w'.cell? ⟨b, off + m * 4, none⟩ = some (.int .u32 p.t) ∧ w'.cell? ⟨b, off + m * 4 + 1, none⟩ = some (.int .u64 p.b)) := fun V tv => by
                  refine (sget_of tv.vb p.n ⟨hfit.1, hfit.2.1⟩ HM.out.2.1.plc).mono ?_
                  rintro e w' ⟨v, rfl, bk, hb⟩
                  rw [← HM.out.2.2.1, ← hB]
                  rw [← HM.out.2.2.1, ← hE] at bk
                  obtain ⟨Ax, Cx, e9⟩ := own_slice bk.1
                  subst e9
                  exact ⟨Ax, _, Cx, rfl, ⟨bk.bin.1, hb, tv.below hb⟩, hpc w' (tv.below hb)⟩
                have HCa : Hid (∀ V, Tw2 w V s0 Da6 ka sP (0 + i) Db' kb sb cb (some ⟨b, off, none⟩) i C l' → Calls Try.prog 16 #[.pointer (some ⟨ka.pm, 0, none⟩), .int .u32 p.t] V fun e w' => e = .returned (.int .u64 (K : Nat)) ∧ Below V.heap.size V w') := fun V tv => by
                  refine (mCount_of ka.pm ka.b1 ka.b2 sP.S _ p.t V tv.va.mp (by omega)).mono ?_
                  rintro e w' ⟨rfl, hb⟩
                  exact ⟨by rw [hK], hb⟩
                have HCb : Hid (∀ V, Tw2 w V s0 Da6 ka sP (0 + i) Db' kb sb cb (some ⟨b, off, none⟩) i C l' → Calls Try.prog 16 #[.pointer (some ⟨kb.pm, 0, none⟩), .int .u32 p.t] V fun e w' => e = .returned (.int .u64 (K : Nat)) ∧ Below V.heap.size V w') := fun V tv => by
                  refine (mCount_of kb.pm kb.b1 kb.b2 sb.S _ p.t V tv.vb.mp (by omega)).mono ?_
                  rintro e w' ⟨rfl, hb⟩
                  exact ⟨by rw [hK, cnt_names, cnt_names, HM.out.2.2.2], hb⟩
                have HT3 : Hid (Tw2 w wr s0 Da6 ka sP (0 + i) Db' kb sb cb (some ⟨b, off, none⟩) i C l') := tw
                have hBB : (B != B) = false := by simp
                have hKK : ((K : Int) != (K : Int)) = false := by simp
                clear tw hX1 hX2 hcl hp hpc hfit hB hE hK HT2
                go_wp2_with fail
                go_region_held3 (fun Y => Y.cell? ⟨b, off + m * 4, none⟩ = some (.int .u32 p.t) ∧ Y.cell? ⟨b, off + m * 4 + 1, none⟩ = some (.int .u64 p.b)) (first | exact ⟨y0, y1⟩ | exact ⟨z0, z1⟩)
                  (first | (go_simp; go_at_call 13; refine (HGa.out _ (HT3.out.below (Below.refl _ _).drew)).mono ?_; rintro e V2 ⟨Ax, Lx, Cx, rfl, gx, z0, z1⟩))
                have HX : Hid (BIn V2 Ax Lx E ∧ Tw2 w V2 s0 Da6 ka sP (0 + i) Db' kb sb cb (some ⟨b, off, none⟩) i C l') := ⟨gx.1, gx.2.2⟩
                clear gx y0 y1
                go_wp2_with fail
                go_region_held3 (fun Y => Y.cell? ⟨b, off + m * 4, none⟩ = some (.int .u32 p.t) ∧ Y.cell? ⟨b, off + m * 4 + 1, none⟩ = some (.int .u64 p.b)) (first | exact ⟨z0, z1⟩ | exact ⟨y0, y1⟩)
                  (first | (go_simp; go_at_call 13; refine (HGb.out _ (HX.out.2.below (Below.refl _ _).drew)).mono ?_; rintro e V3 ⟨Ay, Ly, Cy, rfl, gy, y0, y1⟩))
                have HY : Hid (BIn V3 Ax Lx E ∧ BIn V3 Ay Ly E ∧ Tw2 w V3 s0 Da6 ka sP (0 + i) Db' kb sb cb (some ⟨b, off, none⟩) i C l') := ⟨(HX.out.1.below (Below.refl _ _).drew).below gy.2.1, gy.1, gy.2.2⟩
                clear gy z0 z1 HX
                go_wp2_with fail
                have cS := fun d os => Calls.regrown_of ((sameBytes_of Ax Lx Cx E Ay Ly Cy (Go.Sort.grow (redrawn V3 d) os) (HY.out.1.below (below_regrown V3 d os)) (HY.out.2.1.below (below_regrown V3 d os))).mono (fun e w' h => ⟨h.1, by rw [h.2]; exact Below.refl _ _⟩))
                have cM := fun d os => Calls.regrown_of ((smap_of (HY.out.2.2.below (below_regrown V3 d os)).va).mono (fun e w' h => ⟨h.1, by rw [h.2]; exact Below.refl _ _⟩))
                have cN := fun d os => Calls.regrown_of ((smap_of (HY.out.2.2.below (below_regrown V3 d os)).vb).mono (fun e w' h => ⟨h.1, by rw [h.2]; exact Below.refl _ _⟩))
                have cA := fun d os => Calls.regrown_of (HCa.out (Go.Sort.grow (redrawn V3 d) os) (HY.out.2.2.below (below_regrown V3 d os)))
                have cB := fun d os => Calls.regrown_of (HCb.out (Go.Sort.grow (redrawn V3 d) os) (HY.out.2.2.below (below_regrown V3 d os)))
                have yr : ∀ d os, (Go.Sort.grow (redrawn V3 d) os).cell? ⟨b, off + m * 4, none⟩ = some (.int .u32 p.t) := fun d os => ((below_regrown V3 d os).cell (old_block y0)).trans y0
                refine wp_region_quiet_below (by kernel_rfl) (by kernel_rfl) ?_
                iterate 6 (quiet_step (fail))
                quiet_step (exact cS _ _)
                iterate 4 (quiet_step (fail))
                quiet_step (exact cM _ _)
                iterate 5 (quiet_step (fail))
                quiet_step (exact cA _ _)
                iterate 1 (quiet_step (fail))
                quiet_step (exact cN _ _)
                iterate 5 (quiet_step (fail))
                quiet_step (exact cB _ _)
                iterate 2 (quiet_step (fail))
                refine wpQuiet_nil ?_
                intro _ hw'
                obtain ⟨⟨dq, osq⟩, hw''⟩ := hw'
                subst hw''
                have H8 : Hid (Tw2 w (Go.Sort.grow (redrawn V3 dq) osq) s0 Da6 ka sP (0 + i) Db' kb sb cb (some ⟨b, off, none⟩) i C l') := HY.out.2.2.below (below_regrown V3 dq osq)
                clear cS cM cN cA cB y0 y1 HY yr
                generalize Go.Sort.grow _ _ = V7 at H8 ⊢
                go_wp2
                go_roundw
                case rel => exact ⟨m + 1, by simp, by omega, H8.out⟩
                case measure => simp [intOf]; omega
              · obtain rfl : m = i := by omega
                have HB : Hid (Below w.heap.size w wr) := tw.bel
                clear tw
                go_wp2
                go_ret
                exact ⟨rfl, HB.out⟩
          · have HB : Hid (Below w.heap.size w wr) := HT.out.1.bel
            clear HT
            by_cases he0 : eP = 0
            · have hf0 : (Fv != 0) = true := by simp; exact fun h => hall ⟨he0, h⟩
              have hf1 : (Fv == 0) = false := by simp; exact fun h => hall ⟨he0, h⟩
              subst he0
              rcases Nat.lt_or_ge i n1 with h | h
              · have h' : (i : Int) < n1 := by omega
                go_wp2
                go_ret
                exact ⟨rfl, HB.out⟩
              · have h' : ¬ (i : Int) < n1 := by omega
                go_wp2
                go_ret
                exact ⟨rfl, HB.out⟩
            · have he1 : (eP != 0) = true := by simp [he0]
              rcases Nat.lt_or_ge i n1 with h | h
              · have h' : (i : Int) < n1 := by omega
                have hf1 : (Fv == 0) = false := by simp; exact fun hh => hgo ⟨h, hh⟩
                go_wp2
                go_ret
                exact ⟨rfl, HB.out⟩
              · have h' : ¬ (i : Int) < n1 := by omega
                go_wp2
                go_ret
                exact ⟨rfl, HB.out⟩
    · have HN : Hid (∀ V, Below w.heap.size w V → Blk V w.heap.size [.int .i64 s0.z, .int .i64 s0.zb, .int .i64 s0.b, .int .i64 s0.r] 23 → Calls Try.prog 9 #[.agg #[.int .i64 s0.z, .int .i64 s0.zb, .int .i64 s0.b, .int .i64 s0.r]] V fun e w' => e = .returned (.pointer none) ∧ Below w.heap.size w w' ∧ Blk w' w.heap.size [.int .i64 s0.z, .int .i64 s0.zb, .int .i64 s0.b, .int .i64 s0.r] 23) := fun V hb hs => by
        refine (snew_of s0 V (by have := HH.out.2.2.1; exact this.1)).mono ?_
        rintro e w' ⟨hb', ⟨_, rfl⟩ | ⟨hh, _⟩⟩
        · exact ⟨rfl, hb.trans (hb'.mono hb.size), hs.below hb' hs.lt⟩
        · exact (hr hh).elim
      go_enter Try.func4, Try.ntmps4
      go_wp2_with (first
        | (go_at_call 7; refine HHv.out.mono ?_; rintro e W1 ⟨rfl, hb1, bs1⟩)
        | (go_at_call 8; refine (HKn.out _ hb1 bs1).mono ?_; rintro e W2 ⟨rfl, hb2, bs2⟩; have sh0 : W2.cell? ⟨w.heap.size, 0, none⟩ = some (.int .i64 s0.z) := bs2.cell 0; have sh1 : W2.cell? ⟨w.heap.size, 1, none⟩ = some (.int .i64 s0.zb) := bs2.cell 1; have sh2 : W2.cell? ⟨w.heap.size, 2, none⟩ = some (.int .i64 s0.b) := bs2.cell 2; have sh3 : W2.cell? ⟨w.heap.size, 3, none⟩ = some (.int .i64 s0.r) := bs2.cell 3)
        | (go_at_call 9; refine (HN.out _ hb2 bs2).mono ?_; rintro e W3 ⟨rfl, hb3, bs3⟩; have th0 : W3.cell? ⟨w.heap.size, 0, none⟩ = some (.int .i64 s0.z) := bs3.cell 0; have th1 : W3.cell? ⟨w.heap.size, 1, none⟩ = some (.int .i64 s0.zb) := bs3.cell 1; have th2 : W3.cell? ⟨w.heap.size, 2, none⟩ = some (.int .i64 s0.b) := bs3.cell 2; have th3 : W3.cell? ⟨w.heap.size, 3, none⟩ = some (.int .i64 s0.r) := bs3.cell 3)
        | (go_at_call 9; refine (HN.out _ hb3 bs3).mono ?_; rintro e W4 ⟨rfl, hb4, bs4⟩))
      go_ret
      exact ⟨rfl, hb4⟩

set_option maxRecDepth 100000 in
theorem lifted (os : Os) (started : os.Started) (H : Type) (enc : TypeId × Value → H) :
    ReturnsInHanded {} Try.checked os 4 .any (Rows.storePartsSpec.pre6 enc Try.prog Try.f4 Rows.storePartsRow.domain false) (Rows.storePartsSpec.post enc Try.prog Try.f4 false true false false) := by
  refine returnsInHanded_of_change (C := Try.checked) own started (by kernel_rfl) Try.func4
    (ChangeSpec.witness6 (enc := enc) (C := Try.checked) false ⟨#[], #[.agg #[.int .i64 0, .int .i64 0, .int .i64 0, .int .i64 0], .slice none 0 0], []⟩ 8 (by kernel_rfl) (by kernel_rfl) (by kernel_rfl) (by kernel_rfl)) ?_
  intro W base args ds gs before hval0 hW hcnd _
  have hval : ∀ (j : Nat) t v, Try.f4.params[j]? = some t → args[j]? = some v → Value.okWide Try.prog W .any base t v := hval0
  have hW' := hW
  obtain ⟨p, q, hA0, hV, rfl, hfz, hnd⟩ := hW
  have hA : DataW.TrodAll enc Try.prog W 0 (fun _ => true) true Try.f4.params.toList args.toList ds p := hA0
  rw [Try.params4] at hA hval
  obtain ⟨v0, vs0, d0, ds0, p0, q0, hargs, rfl, rfl, h0, r0⟩ := trodAll_cons hA
  obtain ⟨v1, vs1, d1, ds1, p1, q1, rfl, rfl, rfl, h1, r1⟩ := trodAll_cons r0
  obtain ⟨rfl, rfl, rfl⟩ := trodAll_nil r1
  obtain rfl : args = #[v0, v1] := by cases args; simp_all
  obtain ⟨rfl, rfl⟩ := trodVars_none hV
  have k0 := h0
  have lt0 : ∀ x ∈ p0, x.block < W.heap.size := by obtain ⟨m, hm⟩ := k0; exact DataW.trod_lt m _ _ _ hm
  obtain ⟨s0, rfl, w0⟩ := open_shape (hval 0 23 v0 rfl rfl) h0
  obtain ⟨a1, n1, c1, rfl⟩ := okWide_slice Try.underlying24 (hval 1 24 v1 rfl rfl)
  have k1 := h1
  have lt1 : ∀ x ∈ p1, x.block < W.heap.size := by obtain ⟨m, hm⟩ := k1; exact DataW.trod_lt m _ _ _ hm
  obtain ⟨x1, w1⟩ := open_puts h1
  clear hA0 hval0
  refine (walk s0 a1 n1 c1 x1 W w0 w1).mono fun e W' ⟨he, bel⟩ => ?_
  subst he
  exact ⟨_, rfl, _, _, _, [], _, [], hW', trodAll_mk1 (shut_bool Try.underlying4 _), (trodAll_cons_mk (Below.trod laidOut (by kernel_rfl) (of_decide_eq_true (by kernel_rfl)) k0 bel lt0) (trodAll_cons_mk (Below.trod laidOut (by kernel_rfl) (of_decide_eq_true (by kernel_rfl)) k1 bel lt1) trodAll_mk0)), rfl, bel.frame _, fun h => by cases h⟩

theorem over : Rows.storePartsRow.holds Try.pinned (OpenSpec.ofChange Rows.storePartsSpec) :=
  OpenClaim.holds_of_wide 4 Try.f4 rfl rfl rfl rfl rfl rfl rfl ⟨rfl, rfl, rfl, rfl, rfl⟩ rfl rfl rfl rfl rfl (by kernel_rfl) Try.func4 (by kernel_rfl)
    (of_decide_eq_true (by kernel_rfl)) (by unfold Func.isWrapper; first | (rw [if_pos (by decide +kernel)]; kernel_rfl) | (rw [if_neg (by decide +kernel)]; exact ⟨rfl, rfl⟩))
    (fun os started H enc _ => lifted os started H enc)

end Go.Proofs.Ytjjpkjphghclpaa.storeParts
namespace Go.Proofs.Ytjjpkjphghclpaa
/-- The statement. -/
theorem storeParts_holds : Rows.StorePartsSaid := storeParts.over
#print axioms storeParts_holds
end Go.Proofs.Ytjjpkjphghclpaa
