/- Requests one behind the other are read. -/
import Derived.Test.YtlfmdplaoalahaaRows
import Derived.Test.YtlfmdplaoalahaaRCat
import Derived.WalkKit
import Derived.ProofKit
import Derived.OpenShut
import Derived.ShutString
import Derived.ChangeOld
import Derived.Below
namespace Go.Proofs.Ytlfmdplaoalahaa.reqFronts
open Go.ChangeShapes Go.WideShapes Go.ChangeAt Go.RowKit
open Go.ChangeMaps (open_string shut_string)
set_option linter.unusedVariables false

theorem own : ownKnob Try.prog.godebug = none := by kernel_rfl
theorem laidOut : laidOutB Try.prog = true := by kernel_rfl

/-- WHAT THE WALK IS TOLD OF A SLICE OF INTEGERS THAT CAME IN: it is nil; or it leads to a row of 'cap' cells, the numbers 'zs' (the first 'len' are its elements, the rest its spare room), each fitting its kind. -/
def IsRow (k : IntKind) (w : World) (a : Option Addr) (len cap : Nat) (zs : List Int) : Prop :=
  (a = none ∧ len = 0 ∧ cap = 0 ∧ zs = []) ∨
  ∃ x, a = some x ∧ len ≤ cap ∧ cap ≤ maxLen ∧ zs.length = cap ∧ (∀ i, i < zs.length → w.cell? (x.add i) = some (.int k (zs.getD i 0))) ∧ ∀ n ∈ zs, (Lit.int k n).wf = true

set_option maxRecDepth 10000 in
set_option maxHeartbeats 4000000 in
theorem walk (a0 : Option Addr) (n0 c0 : Nat) (rs0 : List (Rq × List Int)) (w : World) (w0 : RsIn w a0 n0 rs0 ∧ n0 ≤ c0 ∧ (a0 = none → n0 = 0 ∧ c0 = 0)) :
    Calls Try.prog 8 #[.slice a0 n0 c0] w fun e w' => e = .returned (.bool true) ∧ Below w.heap.size w w' := by
  obtain ⟨hrs, hnc, hnil⟩ := w0
  obtain ⟨q, hq⟩ : ∃ q, q = w.heap.size := ⟨_, rfl⟩
  have H : Hid (RsIn w a0 n0 rs0 ∧ q = w.heap.size ∧ q ≤ w.heap.size ∧ ∀ p ∈ rs0, p.1.Fits ∧ ∀ z ∈ p.2, Fits8 z) := ⟨hrs, hq, by omega, hrs.fits⟩
  rw [← hq]
  clear hrs hnc hnil hq
  by_cases h1 : (20 : Int) < n0
  · have d1 : decide ((20 : Int) < n0) = true := decide_eq_true h1
    go_enter Try.func8, Try.ntmps8
    go_wp2_with fail
    refine (rknown_any w).mono ?_
    rintro e w1 ⟨rfl, b1⟩
    have B1 : Hid (Below q w w1) := by rw [H.out.2.1]; exact b1
    clear b1
    go_wp2
    go_ret
    exact ⟨rfl, B1.out⟩
  have d1 : decide ((20 : Int) < n0) = false := decide_eq_false h1
  have n1 : n0 ≤ 20 := by omega
  clear h1
  go_enter Try.func8, Try.ntmps8
  go_wp2_with fail
  refine (rknown_any w).mono ?_
  rintro e W1 ⟨rfl, b1⟩
  have H1 : Hid (Below q w W1 ∧ q ≤ W1.heap.size) := by
    have : Below q w W1 := by rw [H.out.2.1]; exact b1
    exact ⟨this, Nat.le_trans H.out.2.2.1 this.size⟩
  clear b1 d1
  go_wp2
  go_loopw [3, 4] (fun s i wr => ∃ (j : Nat) (A : Option Addr) (m C : Nat), j ≤ n0 ∧ i = .int .i64 j ∧ s = .slice A m C ∧ wr.ownsRow q 5 1 (.slice A m C) m (u8s (catW (rs0.take j))) ∧ m ≤ j * 128 ∧ Below q w wr ∧ q ≤ wr.heap.size ∧ ∀ p ∈ rs0.take j, p.2.length ≤ 100)
    (fun _ i _ => n0 - (intOf i).toNat)
  case atStart => exact ⟨0, none, 0, 0, by omega, rfl, rfl, World.ownsRow_nil _ _ _ _, by omega, H1.out.1, H1.out.2, by simp⟩
  case round =>
    obtain ⟨j, A, m, C, hj, rfl, rfl, ow, hm, bl, hqs, hsm⟩ := hrel
    have HK : Hid (wr.ownsRow q 5 1 (.slice A m C) m (u8s (catW (rs0.take j))) ∧ Below q w wr ∧ q ≤ wr.heap.size ∧ ∀ p ∈ rs0.take j, p.2.length ≤ 100) := ⟨ow, bl, hqs, hsm⟩
    clear ow bl hqs hsm
    by_cases hlt : j < n0
    · have hlt' : (j : Int) < n0 := by omega
      obtain ⟨b, off, rfl, hc⟩ := H.out.1.2.resolve_left (by omega)
      obtain ⟨p, hp, A1, k1, C1, hpf, hD, hpl, hrg⟩ := RsIn.one (n := n0) hc (wr := wr) (by rw [← H.out.2.1]; exact HK.out.2.1) (j := j) (by rw [H.out.1.1]; exact hlt)
      have c5 : wr.cell? ⟨b, off + j * 6 + 5, none⟩ = some (.slice A1 k1 C1) := hrg 5 _ rfl
      have HP : Hid (rs0[j]? = some p ∧ p.1.Fits ∧ DIn wr A1 k1 C1 p.2 ∧ p.2.length = k1) := ⟨hp, hpf, hD, hpl⟩
      clear hc hp hpf hD hpl
      by_cases hk : (100 : Int) < k1
      · go_wp2
        go_ret
        exact ⟨rfl, HK.out.2.1⟩
      have hk1 : k1 ≤ 100 := by omega
      clear hk
      go_wp2_with (refine wpList_load_mid rfl 28 (.tmp 36) rfl b (off + j * 6) rfl _ _ hrg Try.underlying28 rfl Try.info_request ?_)
      refine (write_of p.1 A1 k1 C1 p.2 wr HP.out.2.1 HP.out.2.2.1 (by omega)).mono ?_
      rintro e W2 ⟨B2, m2, E2, rfl, o2, b2⟩
      have hm2 : m2 ≤ 128 := by have h1 := o2.1; rw [u8s_length, wrL_length] at h1; have h2 := wrD_few p.1 p.2; rw [HP.out.2.2.2] at h2; omega
      have hwf : ∀ z ∈ wrL p.1 p.2, Fits8 z := wrL_fits HP.out.2.2.1.1.2.2.1
      have H2 : Hid (W2.ownsRow q 5 1 (.slice A m C) m (u8s (catW (rs0.take j))) ∧ BIn W2 B2 m2 (wrL p.1 p.2) ∧ (B2 = none → m2 = 0 ∧ E2 = 0) ∧ Below q w W2 ∧ q ≤ W2.heap.size) := ⟨own_belowN HK.out.1 b2 (Nat.le_refl _), own_bin o2 (by unfold maxLen; omega) hwf, own_nil o2, HK.out.2.1.trans (b2.mono HK.out.2.2.1), Nat.le_trans HK.out.2.2.1 b2.size⟩
      clear o2 b2 hwf c5 hrg
      go_wp2_with (at_builtin; refine wpList_append_bin rfl (.tmp 33) (.tmp 38) rfl q A m C (catW (rs0.take j)) rfl H2.out.1 B2 m2 E2 (wrL p.1 p.2) rfl H2.out.2.1 H2.out.2.2.1 (by omega) H2.out.2.2.2.2 ?_; intro A3 C3 W3 o3 b3)
      have H3 : Hid (W3.ownsRow q 5 1 (.slice A3 (m + m2) C3) (m + m2) (u8s (catW (rs0.take (j + 1)))) ∧ Below q w W3 ∧ q ≤ W3.heap.size ∧ ∀ p ∈ rs0.take (j + 1), p.2.length ≤ 100) := by
        rw [take_snoc HP.out.1, catW_snoc]
        refine ⟨o3, H2.out.2.2.2.1.trans b3, Nat.le_trans H2.out.2.2.2.2 b3.size, fun r hr => ?_⟩
        rcases List.mem_append.1 hr with hr | hr
        · exact HK.out.2.2.2 r hr
        · simp only [List.mem_cons, List.not_mem_nil, or_false] at hr
          subst hr
          rw [HP.out.2.2.2]; exact hk1
      clear o3 b3
      go_roundw
      case rel => exact ⟨j + 1, A3, m + m2, C3, by omega, by go_num, rfl, H3.out.1, by omega, H3.out.2.1, H3.out.2.2.1, H3.out.2.2.2⟩
      case measure => simp [intOf]; omega
    · have hge : (n0 : Int) ≤ j := by omega
      have hjn : j = n0 := by omega
      have eT : rs0.take j = rs0 := List.take_of_length_le (by rw [H.out.1.1]; omega)
      rw [eT] at HK
      have hmb : m ≤ 2560 := by have : j * 128 ≤ 20 * 128 := Nat.mul_le_mul_right _ (by omega); omega
      have hcf : ∀ z ∈ catW rs0, Fits8 z := catW_fits (fun p hp => (H.out.2.2.2 p hp).2)
      have HC : Hid (BIn wr A m (catW rs0) ∧ (A = none → m = 0 ∧ C = 0) ∧ m ≤ C) := ⟨own_bin HK.out.1 (by unfold maxLen; omega) hcf, own_nil HK.out.1, own_capN HK.out.1⟩
      have dj : decide (j < n0) = false := decide_eq_false hlt
      clear hjn eT hcf hj hm hlt
      obtain ⟨wk, hwk⟩ : ∃ wk, wk = wr := ⟨_, rfl⟩
      rw [← hwk] at HK HC ⊢
      clear hwk
      go_wp2
      go_loopw [3, 5] (fun s i wr => ∃ (j : Nat) (L : Option Addr) (n' c' : Nat), j ≤ n0 ∧ i = .int .i64 j ∧ s = .slice L n' c' ∧ BIn wr L n' (catW (rs0.drop j)) ∧ (L = none → n' = 0 ∧ c' = 0) ∧ n' ≤ c' ∧ n' ≤ 2560 ∧ Below q w wr ∧ q ≤ wr.heap.size)
        (fun _ i _ => n0 - (intOf i).toNat)
      case atStart => exact ⟨0, A, m, C, by omega, rfl, rfl, by simpa using HC.out.1, HC.out.2.1, HC.out.2.2, hmb, HK.out.2.1, HK.out.2.2.1⟩
      case round =>
        obtain ⟨i, L, n', c', hi, rfl, rfl, hb, hLn, hLc, hn', bl, hqs⟩ := hrel
        by_cases hlt : i < n0
        · have hlt' : (i : Int) < n0 := by omega
          obtain ⟨b, off, rfl, hc⟩ := H.out.1.2.resolve_left (by omega)
          obtain ⟨p, hp, A1, k1, C1, hpf, hD, hpl, hrg⟩ := RsIn.one (n := n0) hc (wr := wr) (by rw [← H.out.2.1]; exact bl) (j := i) (by rw [H.out.1.1]; exact hlt)
          have hsm : p.2.length ≤ 100 := HK.out.2.2.2 p (List.mem_iff_getElem?.2 ⟨i, hp⟩)
          rw [drop_cons hp, catW_cons] at hb
          obtain ⟨Y, hY⟩ : ∃ Y, Y = catW (rs0.drop (i + 1)) := ⟨_, rfl⟩
          obtain ⟨G, hG⟩ : ∃ G, G = wrL p.1 p.2 := ⟨_, rfl⟩
          rw [← hY, ← hG] at hb
          obtain ⟨t1, t2, t3, t4⟩ := next_whole hpf p.2 Y (by omega)
          obtain ⟨u1, u2, u3, u4⟩ := next_whole hpf p.2 [] (by omega)
          rw [← hG] at t1 t2 t3 t4 u1 u2 u3 u4
          rw [List.append_nil] at u1 u2 u3 u4
          have hGl : G.length = 28 + (wrD p.1 p.2).length := by rw [hG, wrL_length]
          have hwd := wrD_few p.1 p.2
          obtain ⟨g, hg⟩ : ∃ g, g = G.length := ⟨_, rfl⟩
          rw [← hg] at t3 u3 hGl
          have hgn : g ≤ n' := by have := hb.1; rw [List.length_append, ← hg] at this; omega
          have hg28 : 28 ≤ g := by omega
          obtain ⟨Q, hQ⟩ : ∃ Q, Q = wrR p.1 p.2.length := ⟨_, rfl⟩
          rw [← hQ] at t1 u1
          have q2 : Q.ck = p.1.ck := by rw [hQ, wrR_ck]
          have q1 : Q.kd = p.1.kd := by rw [hQ, wrR_kd]
          have HR : Hid (BIn wr L n' (G ++ Y) ∧ (L = none → n' = 0 ∧ c' = 0) ∧ n' ≤ c' ∧ Below q w wr ∧ q ≤ wr.heap.size ∧ wr.rangeAt b (off + i * 6) (reqL p.1 A1 k1 C1) ∧ Y = catW (rs0.drop (i + 1)) ∧ g = G.length ∧ Q.ck = p.1.ck ∧ Q.kd = p.1.kd ∧ ∀ z ∈ G, Fits8 z) := ⟨hb, hLn, hLc, bl, hqs, hrg, hY, hg, q2, q1, fun z hz => hb.2.2.1 z (by simp [hz])⟩
          have HU : Hid ((nxR (G ++ Y) = Q ∧ nxD (G ++ Y) = wrD p.1 p.2 ∧ nxC (G ++ Y) = (g : Nat) ∧ nxE (G ++ Y) = 0) ∧ (nxR G = Q ∧ nxD G = wrD p.1 p.2 ∧ nxC G = (g : Nat) ∧ nxE G = 0)) := ⟨⟨t1, t2, t3, t4⟩, ⟨u1, u2, u3, u4⟩⟩
          clear hb hLn hLc bl hqs hrg hY hG t1 t2 t3 t4 u1 u2 u3 u4 hGl hwd hg hQ q2 q1 hpf hD hpl hp hc hsm
          go_wp2_with fail
          refine (next_of L n' c' (G ++ Y) wr HR.out.1 HR.out.2.1 HR.out.2.2.1 (by omega)).mono ?_
          rw [HU.out.1.1, HU.out.1.2.1, HU.out.1.2.2.1, HU.out.1.2.2.2]
          rintro e V1 ⟨B1, k2, E1, rfl, d1, -, b1⟩
          have S1 : Hid (BIn V1 L n' (G ++ Y) ∧ Below q w V1 ∧ q ≤ V1.heap.size ∧ BIn V1 B1 k2 (wrD p.1 p.2) ∧ V1.rangeAt b (off + i * 6) (reqL p.1 A1 k1 C1)) := ⟨HR.out.1.below b1, HR.out.2.2.2.1.trans (b1.mono HR.out.2.2.2.2.1), Nat.le_trans HR.out.2.2.2.2.1 b1.size, d1, fun x v hv => by have h := HR.out.2.2.2.2.2.1 x v hv; rw [b1.cell (old_block h)]; exact h⟩
          clear d1 b1
          go_upto_region 14 with (refine wpList_store_req rfl (.tmp 6) (.tmp 49) rfl V1.heap.size Q B1 k2 E1 rfl rfl ?hT ?_; (case hT => exact req_there _); intro V2 hU; have S2 : Hid (BIn V2 L n' (G ++ Y) ∧ Below q w V2 ∧ q ≤ V2.heap.size ∧ BIn V2 B1 k2 (wrD p.1 p.2) ∧ V2.rangeAt b (off + i * 6) (reqL p.1 A1 k1 C1) ∧ Blk V2 V1.heap.size (reqL Q B1 k2 E1) 28) := (have u := req_kept hU; ⟨S1.out.1.below u.2, S1.out.2.1.trans (u.2.mono S1.out.2.2.1), Nat.le_trans S1.out.2.2.1 u.2.size, S1.out.2.2.2.1.below u.2, fun x v hv => (by have h := S1.out.2.2.2.2 x v hv; rw [u.2.cell (old_block h)]; exact h), u.1⟩); clear hU)
          obtain ⟨s, hs⟩ : ∃ s, s = V1.heap.size := ⟨_, rfl⟩
          rw [← hs] at S2 ⊢
          clear hs
          have x2 : V2.cell? ⟨s, 2, none⟩ = some (.int .u64 p.1.ck) := by rw [← HR.out.2.2.2.2.2.2.2.2.1]; exact S2.out.2.2.2.2.2.cell 2
          have x1 : V2.cell? ⟨s, 1, none⟩ = some (.int .u16 p.1.kd) := by rw [← HR.out.2.2.2.2.2.2.2.2.2.1]; exact S2.out.2.2.2.2.2.cell 1
          have y2 : V2.cell? ⟨b, off + i * 6 + 2, none⟩ = some (.int .u64 p.1.ck) := S2.out.2.2.2.2.1 2 _ rfl
          have y1 : V2.cell? ⟨b, off + i * 6 + 1, none⟩ = some (.int .u16 p.1.kd) := S2.out.2.2.2.2.1 1 _ rfl
          have e1 : (p.1.ck != p.1.ck) = false := by simp
          have e2 : (p.1.kd != p.1.kd) = false := by simp
          have e3 : decide ((n' : Int) < (g : Int)) = false := decide_eq_false (by omega)
          have e4 : decide ((g : Int) < 28) = false := decide_eq_false (by omega)
          go_quiet (fail)
          have S3 : Hid (BIn (V2.drewN nq) L n' (G ++ Y) ∧ Below q w (V2.drewN nq) ∧ q ≤ (V2.drewN nq).heap.size ∧ BIn (V2.drewN nq) B1 k2 (wrD p.1 p.2) ∧ Blk (V2.drewN nq) s (reqL Q B1 k2 E1) 28) := ⟨S2.out.1.below (below_drewN (Below.refl _ _) nq), below_drewN S2.out.2.1 nq, S2.out.2.2.1, S2.out.2.2.2.1.below (below_drewN (Below.refl _ _) nq), S2.out.2.2.2.2.2.drewN nq⟩
          clear x1 x2 y1 y2 e1 e2 e3 e4
          generalize hV3 : V2.drewN nq = V3 at S3 ⊢
          clear hV3
          have hsf := fun w => slice_front Try.underlying22 Try.one_bytes L n' c' g (by have := HR.out.2.2.1; omega) w
          obtain ⟨L', eL⟩ : ∃ L', .slice L' (n' - g) (c' - g) = leftV L n' c' g := ⟨_, rfl⟩
          have hsb := fun w => slice_backU Try.underlying22 Try.one_bytes .i64 L n' c' g hgn w
          rw [← eL] at hsb
          have hgi : (g : Int) ≤ n' := by omega
          have HE : Hid (.slice L' (n' - g) (c' - g) = leftV L n' c' g ∧ g ≤ n' ∧ 28 ≤ g ∧ n' ≤ 2560) := ⟨eL, hgn, hg28, hn'⟩
          have hfr : BIn V3 L g G := by
            have h := (S3.out.1.n.front g hgn).b
            rwa [List.take_left' HR.out.2.2.2.2.2.2.2.1.symm] at h
          have HG : Hid (BIn V3 L g G ∧ (L = none → g = 0 ∧ c' = 0)) := ⟨hfr, fun e => by have := HR.out.2.1 e; omega⟩
          clear eL hfr
          go_wp2_with fail
          refine (lentBytes_of L g c' G V3 HG.out.1 HG.out.2 (by omega)).mono ?_
          rintro e V4 ⟨B4, E4, rfl, o4, b4⟩
          have S4 : Hid (BIn V4 L n' (G ++ Y) ∧ Below q w V4 ∧ q ≤ V4.heap.size ∧ BIn V4 B1 k2 (wrD p.1 p.2) ∧ Blk V4 s (reqL Q B1 k2 E1) 28 ∧ BIn V4 B4 g G ∧ (B4 = none → g = 0 ∧ E4 = 0) ∧ g ≤ E4) := ⟨S3.out.1.below b4, S3.out.2.1.trans (b4.mono S3.out.2.2.1), Nat.le_trans S3.out.2.2.1 b4.size, S3.out.2.2.2.1.below b4, S3.out.2.2.2.2.below b4 S3.out.2.2.2.2.lt, own_bin o4 (by unfold maxLen; omega) HR.out.2.2.2.2.2.2.2.2.2.2, own_nil o4, own_capN o4⟩
          clear o4 b4
          go_wp2_with fail
          refine (next_of B4 g E4 G V4 S4.out.2.2.2.2.2.1 S4.out.2.2.2.2.2.2.1 S4.out.2.2.2.2.2.2.2 (by omega)).mono ?_
          rw [HU.out.2.1, HU.out.2.2.1, HU.out.2.2.2.1, HU.out.2.2.2.2]
          rintro e V5 ⟨B5, k5, E5, rfl, d5, -, b5⟩
          have S5 : Hid (BIn V5 L n' (G ++ Y) ∧ Below q w V5 ∧ q ≤ V5.heap.size ∧ BIn V5 B1 k2 (wrD p.1 p.2) ∧ Blk V5 s (reqL Q B1 k2 E1) 28 ∧ BIn V5 B5 k5 (wrD p.1 p.2)) := ⟨S4.out.1.below b5, S4.out.2.1.trans (b5.mono S4.out.2.2.1), Nat.le_trans S4.out.2.2.1 b5.size, S4.out.2.2.2.1.below b5, S4.out.2.2.2.2.1.below b5 S4.out.2.2.2.2.1.lt, d5⟩
          clear d5 b5
          go_upto_region 17 with (refine wpList_store_req rfl (.tmp 9) (.tmp 90) rfl V5.heap.size Q B5 k5 E5 rfl rfl ?hT ?_; (case hT => exact req_there _); intro V6 hU; have S6 : Hid (BIn V6 L n' (G ++ Y) ∧ Below q w V6 ∧ q ≤ V6.heap.size ∧ BIn V6 B1 k2 (wrD p.1 p.2) ∧ Blk V6 s (reqL Q B1 k2 E1) 28 ∧ BIn V6 B5 k5 (wrD p.1 p.2) ∧ Blk V6 V5.heap.size (reqL Q B5 k5 E5) 28) := (have u := req_kept hU; ⟨S5.out.1.below u.2, S5.out.2.1.trans (u.2.mono S5.out.2.2.1), Nat.le_trans S5.out.2.2.1 u.2.size, S5.out.2.2.2.1.below u.2, S5.out.2.2.2.2.1.below u.2 S5.out.2.2.2.2.1.lt, S5.out.2.2.2.2.2.below u.2, u.1⟩); clear hU)
          obtain ⟨s5, hs5⟩ : ∃ s5, s5 = V5.heap.size := ⟨_, rfl⟩
          rw [← hs5] at S6 ⊢
          clear hs5
          have x3 : V6.cell? ⟨s5, 3, none⟩ = some (.int .u64 Q.ofs) := S6.out.2.2.2.2.2.2.cell 3
          have x5 : V6.cell? ⟨s5, 5, none⟩ = some (.slice B5 k5 E5) := S6.out.2.2.2.2.2.2.cell 5
          have y3 : V6.cell? ⟨s, 3, none⟩ = some (.int .u64 Q.ofs) := S6.out.2.2.2.2.1.cell 3
          have y5 : V6.cell? ⟨s, 5, none⟩ = some (.slice B1 k2 E1) := S6.out.2.2.2.2.1.cell 5
          have e1 : (Q.ofs != Q.ofs) = false := by simp
          have e2 : ((g : Int) != g) = false := by simp
          go_wp2_with fail
          refine (sameBytes_of B5 k5 E5 (wrD p.1 p.2) B1 k2 E1 (wrD p.1 p.2) V6 S6.out.2.2.2.2.2.1 S6.out.2.2.2.1 rfl).mono ?_
          rintro e V6 ⟨rfl, rfl⟩
          clear x3 x5 y3 y5 e1 e2
          have hbk : BIn V6 L' (n' - g) (catW (rs0.drop (i + 1))) := by
            have h := left_bin S6.out.1 HE.out.2.1 HR.out.2.2.1 HE.out.1
            rw [List.drop_left' HR.out.2.2.2.2.2.2.2.1.symm, HR.out.2.2.2.2.2.2.1] at h
            exact h
          have HX : Hid (BIn V6 L' (n' - g) (catW (rs0.drop (i + 1))) ∧ (L' = none → n' - g = 0 ∧ c' - g = 0) ∧ n' - g ≤ c' - g ∧ n' - g ≤ 2560 ∧ Below q w V6 ∧ q ≤ V6.heap.size) := ⟨hbk, left_nil HE.out.2.1 HR.out.2.1 HE.out.1, by have := HR.out.2.2.1; omega, by have := HE.out; omega, S6.out.2.1, S6.out.2.2.1⟩
          clear hbk hgi hgn hg28 hn' hsf
          go_wp2
          go_roundw
          case rel => exact ⟨i + 1, L', n' - g, c' - g, by omega, by go_num, rfl, HX.out.1, HX.out.2.1, HX.out.2.2.1, HX.out.2.2.2.1, HX.out.2.2.2.2.1, HX.out.2.2.2.2.2⟩
          case measure => simp [intOf]; omega
        · have hge : (n0 : Int) ≤ i := by omega
          have hin : i = n0 := by omega
          have eD : catW (rs0.drop i) = [] := by rw [List.drop_eq_nil_of_le (by rw [H.out.1.1]; omega)]; rfl
          rw [eD] at hb
          have hn0 : n' = 0 := hb.1.symm
          have HB : Hid (Below q w wr) := bl
          subst hn0
          clear eD hb bl hin
          go_wp2
          go_ret
          exact ⟨rfl, HB.out⟩

set_option maxRecDepth 100000 in
theorem lifted (os : Os) (started : os.Started) (H : Type) (enc : TypeId × Value → H) :
    ReturnsInHanded {} Try.checked os 8 .any (Rows.reqFrontsSpec.pre6 enc Try.prog Try.f8 Rows.reqFrontsRow.domain false) (Rows.reqFrontsSpec.post enc Try.prog Try.f8 false true false false) := by
  refine returnsInHanded_of_change (C := Try.checked) own started (by kernel_rfl) Try.func8
    (ChangeSpec.witness6 (enc := enc) (C := Try.checked) false ⟨#[], #[.slice none 0 0], []⟩ 8 (by kernel_rfl) (by kernel_rfl) (by kernel_rfl) (by kernel_rfl)) ?_
  intro W base args ds gs before hval0 hW hcnd _
  have hval : ∀ (j : Nat) t v, Try.f8.params[j]? = some t → args[j]? = some v → Value.okWide Try.prog W .any base t v := hval0
  have hW' := hW
  obtain ⟨p, q, hA0, hV, rfl, hfz, hnd⟩ := hW
  have hA : DataW.TrodAll enc Try.prog W 0 (fun _ => true) true Try.f8.params.toList args.toList ds p := hA0
  rw [Try.params8] at hA hval
  obtain ⟨v0, vs0, d0, ds0, p0, q0, hargs, rfl, rfl, h0, r0⟩ := trodAll_cons hA
  obtain ⟨rfl, rfl, rfl⟩ := trodAll_nil r0
  obtain rfl : args = #[v0] := by cases args; simp_all
  obtain ⟨rfl, rfl⟩ := trodVars_none hV
  obtain ⟨a0, n0, c0, rfl⟩ := okWide_slice Try.underlying51 (hval 0 51 v0 rfl rfl)
  have k0 := h0
  have lt0 : ∀ x ∈ p0, x.block < W.heap.size := by obtain ⟨m, hm⟩ := k0; exact DataW.trod_lt m _ _ _ hm
  obtain ⟨rs0, w0⟩ := open_requests h0
  clear hA0 hval0
  refine (walk a0 n0 c0 rs0 W w0).mono fun e W' ⟨he, bel⟩ => ?_
  subst he
  exact ⟨_, rfl, _, _, _, [], _, [], hW', trodAll_mk1 (shut_bool Try.underlying4 _), (trodAll_cons_mk (Below.trod laidOut (by kernel_rfl) (of_decide_eq_true (by kernel_rfl)) k0 bel lt0) trodAll_mk0), rfl, bel.frame _, fun h => by cases h⟩

theorem over : Rows.reqFrontsRow.holds Try.pinned (OpenSpec.ofChange Rows.reqFrontsSpec) :=
  OpenClaim.holds_of_wide 8 Try.f8 rfl rfl rfl rfl rfl rfl rfl ⟨rfl, rfl, rfl, rfl, rfl⟩ rfl rfl rfl rfl rfl (by kernel_rfl) Try.func8 (by kernel_rfl)
    (of_decide_eq_true (by kernel_rfl)) (by unfold Func.isWrapper; first | (rw [if_pos (by decide +kernel)]; kernel_rfl) | (rw [if_neg (by decide +kernel)]; exact ⟨rfl, rfl⟩))
    (fun os started H enc _ => lifted os started H enc)

end Go.Proofs.Ytlfmdplaoalahaa.reqFronts
namespace Go.Proofs.Ytlfmdplaoalahaa
/-- The statement. -/
theorem reqFronts_holds : Rows.ReqFrontsSaid := reqFronts.over
#print axioms reqFronts_holds
end Go.Proofs.Ytlfmdplaoalahaa
