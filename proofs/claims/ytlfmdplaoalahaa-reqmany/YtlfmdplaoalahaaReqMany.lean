/- Replies one behind the other are read. -/
import Derived.Test.YtlfmdplaoalahaaRows
import Derived.Test.YtlfmdplaoalahaaRCat
import Derived.WalkKit
import Derived.ProofKit
import Derived.OpenShut
import Derived.ShutString
import Derived.ChangeOld
import Derived.Below
namespace Go.Proofs.Ytlfmdplaoalahaa.reqMany
open Go.ChangeShapes Go.WideShapes Go.ChangeAt Go.RowKit
open Go.ChangeMaps (open_string shut_string)
set_option linter.unusedVariables false

theorem own : ownKnob Try.prog.godebug = none := by kernel_rfl
theorem laidOut : laidOutB Try.prog = true := by kernel_rfl

/-- WHAT THE WALK IS TOLD OF A SLICE OF INTEGERS THAT CAME IN: it is nil; or it leads to a row of 'cap' cells, the numbers 'zs' (the first 'len' are its elements, the rest its spare room), each fitting its kind. -/
def IsRow (k : IntKind) (w : World) (a : Option Addr) (len cap : Nat) (zs : List Int) : Prop :=
  (a = none ∧ len = 0 ∧ cap = 0 ∧ zs = []) ∨
  ∃ x, a = some x ∧ len ≤ cap ∧ cap ≤ maxLen ∧ zs.length = cap ∧ (∀ i, i < zs.length → w.cell? (x.add i) = some (.int k (zs.getD i 0))) ∧ ∀ n ∈ zs, (Lit.int k n).wf = true

theorem own_not {w : World} {base mb n : Nat} {v : Value} {zs : List Value} (h : w.ownsRow base 5 1 v n zs) (hb : mb < base) : v.ownBlock = none ∨ v.ownBlock ≠ some mb := by
  cases hv : v.ownBlock with
  | none => exact .inl rfl
  | some g => right; have := (h.lt g hv).1; intro e; injection e with e; omega
theorem mapOk_put {f : Int → Int} {rs : List (Rq × List Int)} {j : Nat} {p : Rq × List Int} (h : MapOk f 0 (rs.take j)) (hp : rs[j]? = some p) : MapOk (putF f (j : Int) (p.2.length : Nat)) 0 (rs.take (j + 1)) := by
  have hjl : j < rs.length := (List.getElem?_eq_some_iff.1 hp).1
  intro i r hr
  rw [take_snoc hp] at hr
  unfold putF
  rw [Nat.zero_add]
  by_cases hi : i < j
  · rw [List.getElem?_append_left (by rw [List.length_take]; omega)] at hr
    rw [if_neg (by omega)]
    have := h i r hr
    rwa [Nat.zero_add] at this
  · have hij : i = j := by
      have := (List.getElem?_eq_some_iff.1 hr).1
      rw [List.length_append, List.length_take] at this
      simp at this
      omega
    subst hij
    rw [List.getElem?_append_right (by rw [List.length_take]; omega), List.length_take, Nat.min_eq_left (by omega), Nat.sub_self] at hr
    simp at hr
    subst hr
    rw [if_pos rfl]
set_option maxRecDepth 10000 in
set_option maxHeartbeats 4000000 in
theorem walk (a0 : Option Addr) (n0 c0 : Nat) (rs0 : List (Rq × List Int)) (a1 : Int) (w : World) (w0 : RsIn w a0 n0 rs0 ∧ n0 ≤ c0 ∧ (a0 = none → n0 = 0 ∧ c0 = 0)) (w1 : (Lit.int .u8 a1).wf = true) :
    Calls Try.prog 7 #[.slice a0 n0 c0, .int .u8 a1] w fun e w' => e = .returned (.bool true) ∧ Below w.heap.size w w' := by
  obtain ⟨hrs, hnc, hnil⟩ := w0
  have ba := bounds_u8 w1
  obtain ⟨q, hq⟩ : ∃ q, q = w.heap.size := ⟨_, rfl⟩
  have H : Hid (RsIn w a0 n0 rs0 ∧ q = w.heap.size ∧ q ≤ w.heap.size ∧ (∀ p ∈ rs0, p.1.Fits ∧ ∀ z ∈ p.2, Fits8 z) ∧ Fits8 a1) := ⟨hrs, hq, by omega, hrs.fits, by unfold Fits8; omega⟩
  rw [← hq]
  clear hrs hnc hnil hq w1 ba
  by_cases h1 : (30 : Int) < n0
  · have d1 : decide ((30 : Int) < n0) = true := decide_eq_true h1
    go_enter Try.func7, Try.ntmps7
    go_wp2_with fail
    refine (rknown_any w).mono ?_
    rintro e w1 ⟨rfl, b1⟩
    have B1 : Hid (Below q w w1) := by rw [H.out.2.1]; exact b1
    clear b1
    go_wp2
    go_ret
    exact ⟨rfl, B1.out⟩
  have d1 : decide ((30 : Int) < n0) = false := decide_eq_false h1
  have n1 : n0 ≤ 30 := by omega
  have hmk : ∀ w : World, (Instr.makeMap 41 none).run Try.prog w = .ok (.map (some w.heap.size)) (w.alloc (.map #[] 0)) := fun _ => rfl
  clear h1
  go_enter Try.func7, Try.ntmps7
  go_wp2_with fail
  refine (rknown_any w).mono ?_
  rintro e W1 ⟨rfl, b1⟩
  have H1 : Hid (Below q w W1 ∧ q ≤ W1.heap.size) := by
    have : Below q w W1 := by rw [H.out.2.1]; exact b1
    exact ⟨this, Nat.le_trans H.out.2.2.1 this.size⟩
  clear b1 d1
  go_wp2
  obtain ⟨mb, hmb⟩ : ∃ mb, mb = W1.heap.size := ⟨_, rfl⟩
  rw [← hmb]
  have HM : Hid (OMap (W1.alloc (.map #[] 0)) mb 0 (fun _ => 0) ∧ Below q w (W1.alloc (.map #[] 0)) ∧ mb + 1 ≤ (W1.alloc (.map #[] 0)).heap.size ∧ q ≤ mb) := ⟨by rw [hmb]; exact OMap.made W1, H1.out.1.alloc H1.out.2 _, by rw [hmb]; simp, by rw [hmb]; exact H1.out.2⟩
  generalize hW2 : W1.alloc (.map #[] 0) = W2 at HM ⊢
  clear hW2 hmb H1
  go_loopw [5, 7] (fun s i wr => ∃ (j : Nat) (A : Option Addr) (m C : Nat) (f : Int → Int), j ≤ n0 ∧ i = .int .i64 j ∧ s = .slice A m C ∧ wr.ownsRow (mb + 1) 5 1 (.slice A m C) m (u8s (catR 0 (rs0.take j))) ∧ m ≤ j * 76 ∧ Below q w wr ∧ mb + 1 ≤ wr.heap.size ∧ OMap wr mb j f ∧ MapOk f 0 (rs0.take j))
    (fun _ i _ => n0 - (intOf i).toNat)
  case atStart => exact ⟨0, none, 0, 0, fun _ => 0, by omega, rfl, rfl, World.ownsRow_nil _ _ _ _, by omega, HM.out.2.1, HM.out.2.2.1, HM.out.1, fun i p hp => by simp at hp⟩
  case round =>
    obtain ⟨j, A, m, C, f, hj, rfl, rfl, ow, hm, bl, hqs, om, mo⟩ := hrel
    have HK : Hid (wr.ownsRow (mb + 1) 5 1 (.slice A m C) m (u8s (catR 0 (rs0.take j))) ∧ Below q w wr ∧ mb + 1 ≤ wr.heap.size ∧ OMap wr mb j f ∧ MapOk f 0 (rs0.take j)) := ⟨ow, bl, hqs, om, mo⟩
    clear ow bl hqs om mo
    by_cases hlt : j < n0
    · have hlt' : (j : Int) < n0 := by omega
      obtain ⟨b, off, rfl, hc⟩ := H.out.1.2.resolve_left (by omega)
      obtain ⟨p, hp, A1, k1, C1, hpf, hD, hpl, hrg⟩ := RsIn.one (n := n0) hc (wr := wr) (by rw [← H.out.2.1]; exact HK.out.2.1) (j := j) (by rw [H.out.1.1]; exact hlt)
      have c5 : wr.cell? ⟨b, off + j * 6 + 5, none⟩ = some (.slice A1 k1 C1) := hrg 5 _ rfl
      have HBQ : Hid (b < q) := by
        obtain ⟨_, _, _, _, _, c⟩ := hc j p hp
        rw [H.out.2.1]
        exact old_block (c 5 _ rfl)
      have HP : Hid (rs0[j]? = some p ∧ DIn wr A1 k1 C1 p.2 ∧ p.2.length = k1 ∧ wr.cell? ⟨b, off + j * 6 + 5, none⟩ = some (.slice A1 k1 C1)) := ⟨hp, hD, hpl, c5⟩
      clear hc hp hpf hD hpl hrg
      by_cases hk : (60 : Int) < k1
      · go_wp2
        go_ret
        exact ⟨rfl, HK.out.2.1⟩
      have hk1 : k1 ≤ 60 := by omega
      have hju : IntKind.u64.wrap (j : Int) = j := by rw [IntKind.wrap_u64]; omega
      have hku : IntKind.u32.wrap (k1 : Int) = k1 := by rw [IntKind.wrap_u32]; omega
      clear hk
      go_wp2_with fail
      refine (reply_of 0 (j : Int) A1 k1 C1 p.2 wr ⟨by omega, by omega⟩ ⟨by omega, by omega⟩ HP.out.2.1.1 HP.out.2.1.2.2 (by omega)).mono ?_
      rintro e W3 ⟨B2, m2, E2, rfl, o2, b2⟩
      have hm2 : m2 ≤ 76 := by have h1 := o2.1; rw [u8s_length, rpL_length, HP.out.2.2.1] at h1; omega
      have hwf : ∀ z ∈ rpL 0 (j : Int) p.2, Fits8 z := rpL_fits _ _ HP.out.2.1.1.2.2.1
      have H2 : Hid (W3.ownsRow (mb + 1) 5 1 (.slice A m C) m (u8s (catR 0 (rs0.take j))) ∧ BIn W3 B2 m2 (rpL 0 (j : Int) p.2) ∧ (B2 = none → m2 = 0 ∧ E2 = 0) ∧ Below q w W3 ∧ mb + 1 ≤ W3.heap.size ∧ OMap W3 mb j f ∧ W3.cell? ⟨b, off + j * 6 + 5, none⟩ = some (.slice A1 k1 C1)) := ⟨own_belowN HK.out.1 b2 (Nat.le_refl _), own_bin o2 (by unfold maxLen; omega) hwf, own_nil o2, HK.out.2.1.trans (b2.mono (by have := HK.out.2.2.1; have := HM.out.2.2.2; omega)), Nat.le_trans HK.out.2.2.1 b2.size, HK.out.2.2.2.1.below b2, by rw [b2.cell (old_block HP.out.2.2.2)]; exact HP.out.2.2.2⟩
      clear o2 b2 hwf c5
      go_upto_region 11 with (at_builtin; refine wpList_append_bin rfl (.tmp 43) (.tmp 51) rfl (mb + 1) A m C (catR 0 (rs0.take j)) rfl H2.out.1 B2 m2 E2 (rpL 0 (j : Int) p.2) rfl H2.out.2.1 H2.out.2.2.1 (by omega) H2.out.2.2.2.2.1 ?_; intro A3 C3 W4 o3 b3)
      have hlj : (rs0.take j).length = j := by rw [List.length_take, H.out.1.1]; omega
      have H3 : Hid (W4.ownsRow (mb + 1) 5 1 (.slice A3 (m + m2) C3) (m + m2) (u8s (catR 0 (rs0.take (j + 1)))) ∧ Below q w W4 ∧ mb + 1 ≤ W4.heap.size ∧ OMap W4 mb j f) := by
        have e : catR 0 (rs0.take (j + 1)) = catR 0 (rs0.take j) ++ rpL 0 (j : Int) p.2 := by rw [take_snoc HP.out.1, catR_snoc, hlj, Nat.zero_add]
        rw [e]
        exact ⟨o3, H2.out.2.2.2.1.trans (b3.mono (by have := HM.out.2.2.2; omega)), Nat.le_trans H2.out.2.2.2.2.1 b3.size, H2.out.2.2.2.2.2.1.same (b3.block mb (by omega))⟩
      have c5 : W4.cell? ⟨b, off + j * 6 + 5, none⟩ = some (.slice A1 k1 C1) := by
        have h := H2.out.2.2.2.2.2.2
        have hbq : b < q := HBQ.out
        rw [b3.cell (by show b < mb + 1; have := HM.out.2.2.2; omega)]
        exact h
      clear o3 b3 hlj
      obtain ⟨W5, hput, om, gr⟩ := H3.out.2.2.2.put (by omega) (i := (j : Int)) (v := (k1 : Int)) ⟨by omega, by omega⟩ ⟨by omega, by omega⟩
      have H5 : Hid (W5.ownsRow (mb + 1) 5 1 (.slice A3 (m + m2) C3) (m + m2) (u8s (catR 0 (rs0.take (j + 1)))) ∧ Below q w W5 ∧ mb + 1 ≤ W5.heap.size ∧ OMap W5 mb (j + 1) (putF f (j : Int) (k1 : Int)) ∧ m + m2 ≤ (j + 1) * 76 ∧ MapOk (putF f (j : Int) (k1 : Int)) 0 (rs0.take (j + 1))) := by
        refine ⟨H3.out.1.kept gr (own_not H3.out.1 (by omega)), H3.out.2.1.grown gr (by have := HM.out.2.2.2; have := H3.out.2.2.1; omega) (fun x hx => by injection hx with hx; subst hx; exact HM.out.2.2.2), Nat.le_trans H3.out.2.2.1 gr.size, om, by omega, ?_⟩
        have := mapOk_put (f := f) (rs := rs0) (j := j) HK.out.2.2.2.2 HP.out.1
        rwa [HP.out.2.2.1] at this
      clear om gr hm hm2 hk1
      go_wp2
      go_roundw
      case rel => exact ⟨j + 1, A3, m + m2, C3, putF f (j : Int) (k1 : Int), by omega, by go_num, rfl, H5.out.1, H5.out.2.2.2.2.1, H5.out.2.1, H5.out.2.2.1, H5.out.2.2.2.1, H5.out.2.2.2.2.2⟩
      case measure => simp [intOf]; omega
    · have hge : (n0 : Int) ≤ j := by omega
      have hjn : j = n0 := by omega
      have eT : rs0.take j = rs0 := List.take_of_length_le (by rw [H.out.1.1]; omega)
      rw [eT] at HK
      have hmb' : m ≤ 2280 := by have : j * 76 ≤ 30 * 76 := Nat.mul_le_mul_right _ (by omega); omega
      have hcf : ∀ z ∈ catR 0 rs0, Fits8 z := catR_fits _ _ (fun p hp => (H.out.2.2.2.1 p hp).2)
      have hrl : rs0.length = n0 := H.out.1.1
      have hall := many_all rs0 HK.out.2.2.2.2 (by omega)
      have hmore := many_more rs0 HK.out.2.2.2.2 (by omega) a1
      have HC : Hid (BIn wr A m (catR 0 rs0) ∧ (A = none → m = 0 ∧ C = 0) ∧ m ≤ C ∧ (∀ z ∈ catR 0 rs0, Fits8 z) ∧ (rpList f (catR 0 rs0) = repsOf 0 rs0 ∧ rpIs f (catR 0 rs0) = true) ∧ rpIs f (catR 0 rs0 ++ [a1]) = false ∧ (0 < n0 → rpIs f ((catR 0 rs0).take (m - 1)) = false) ∧ MIn wr (.map (some mb)) f) := by
        refine ⟨own_bin HK.out.1 (by unfold maxLen; omega) hcf, own_nil HK.out.1, own_capN HK.out.1, hcf, hall, hmore, fun h0 => ?_, HK.out.2.2.2.1.min⟩
        have hl := HK.out.1.1
        rw [u8s_length, Nat.mul_one] at hl
        rw [← hl]
        exact many_less rs0 HK.out.2.2.2.2 (by omega) (by omega)
      clear hjn eT hcf hj hm hlt hall hmore hrl
      obtain ⟨wk, hwk⟩ : ∃ wk, wk = wr := ⟨_, rfl⟩
      rw [← hwk] at HK HC ⊢
      clear hwk
      go_wp2_with fail
      refine (replies_of A m C (catR 0 rs0) (.map (some mb)) f wk HC.out.1 HC.out.2.1 HC.out.2.2.1 HC.out.2.2.2.2.2.2.2 (by omega)).mono ?_
      rw [HC.out.2.2.2.2.1.1, HC.out.2.2.2.2.1.2]
      rintro e V1 ⟨A1, k, C1, A2, C2, A3, C3, rfl, p1, p2, p3, b1⟩
      have hk : k = n0 := by have h := p1.1; rw [List.length_map, repsOf_length, H.out.1.1] at h; exact h.symm
      subst hk
      have S1 : Hid (NIn .u32 V1 A1 k ((repsOf 0 rs0).map Rp.a) ∧ NIn .u64 V1 A2 k ((repsOf 0 rs0).map Rp.c) ∧ BsIn V1 A3 k ((repsOf 0 rs0).map Rp.d) ∧ Below q w V1 ∧ q ≤ V1.heap.size ∧ BIn V1 A m (catR 0 rs0) ∧ MIn V1 (.map (some mb)) f) := ⟨p1, p2, p3, HK.out.2.1.trans (b1.mono (by have := HM.out.2.2.2; have := HK.out.2.2.1; omega)), by have := HM.out.2.2.2; have := HK.out.2.2.1; have := b1.size; omega, HC.out.1.below b1, HC.out.2.2.2.2.2.2.2.below b1⟩
      have e1 : ((k : Int) != k) = false := by simp
      clear p1 p2 p3 b1
      obtain ⟨vk, hvk⟩ : ∃ vk, vk = V1 := ⟨_, rfl⟩
      rw [← hvk] at S1 ⊢
      clear hvk
      go_wp2
      go_loopw [12] (fun i wr => ∃ (x : Nat), x ≤ k ∧ i = .int .i64 x ∧ Below vk.heap.size vk wr)
        (fun i _ => k - (intOf i).toNat)
      case atStart => exact ⟨0, by omega, rfl, Below.refl _ _⟩
      case round =>
        obtain ⟨x, hx, rfl, bx⟩ := hrel
        have T1 : Hid (NIn .u32 wr A1 k ((repsOf 0 rs0).map Rp.a) ∧ NIn .u64 wr A2 k ((repsOf 0 rs0).map Rp.c) ∧ BsIn wr A3 k ((repsOf 0 rs0).map Rp.d) ∧ Below q w wr ∧ q ≤ wr.heap.size ∧ BIn wr A m (catR 0 rs0) ∧ MIn wr (.map (some mb)) f ∧ Below vk.heap.size vk wr) := ⟨S1.out.1.below bx, S1.out.2.1.below bx, S1.out.2.2.1.below bx, S1.out.2.2.2.1.trans (bx.mono S1.out.2.2.2.2.1), Nat.le_trans S1.out.2.2.2.2.1 bx.size, S1.out.2.2.2.2.2.1.below bx, S1.out.2.2.2.2.2.2.below bx, bx⟩
        clear bx
        by_cases hlt : x < k
        · have hlt' : (x : Int) < k := by omega
          obtain ⟨b, off, rfl, hc⟩ := H.out.1.2.resolve_left (by omega)
          obtain ⟨p, hp, A4, k4, C4, hpf, hD, hpl, hrg⟩ := RsIn.one (n := k) hc (wr := wr) (by rw [← H.out.2.1]; exact T1.out.2.2.2.1) (j := x) (by rw [H.out.1.1]; exact hlt)
          have hat := repsOf_at rs0 0 x p hp
          rw [Nat.zero_add] at hat
          obtain ⟨b1, o1, rfl, g1⟩ := T1.out.1.2.2.2.resolve_left (by omega)
          obtain ⟨b2, o2, rfl, g2⟩ := T1.out.2.1.2.2.2.resolve_left (by omega)
          obtain ⟨b3, o3, rfl, g3⟩ := T1.out.2.2.1.2.2.resolve_left (by omega)
          have c1 : wr.cell? ⟨b1, o1 + x, none⟩ = some (.int .u32 0) := by have h := g1 x hlt; rwa [show ((repsOf 0 rs0).map Rp.a).getD x 0 = 0 by simp [List.getD, hat]] at h
          have c2 : wr.cell? ⟨b2, o2 + x, none⟩ = some (.int .u64 (x : Int)) := by have h := g2 x hlt; rwa [show ((repsOf 0 rs0).map Rp.c).getD x 0 = (x : Int) by simp [List.getD, hat]] at h
          obtain ⟨A5, L5, C5, c3, s5⟩ := g3 x p.2 (by simp [hat])
          have c4 : wr.cell? ⟨b, off + x * 6 + 5, none⟩ = some (.slice A4 k4 C4) := hrg 5 _ rfl
          have HD : Hid (BIn wr A5 L5 p.2 ∧ BIn wr A4 k4 p.2) := ⟨s5, hD.1⟩
          have hxu : IntKind.u64.wrap (x : Int) = x := by rw [IntKind.wrap_u64]; omega
          have e2 : ((x : Int) != x) = false := by simp
          clear hc hp hpf hD hpl hrg hat g1 g2 g3 s5
          go_wp2
          go_region_held3 (fun w' => w'.cell? ⟨b1, o1 + x, none⟩ = some (.int .u32 0) ∧ w'.cell? ⟨b2, o2 + x, none⟩ = some (.int .u64 (x : Int)) ∧ w'.cell? ⟨b3, o3 + x, none⟩ = some (.slice A5 L5 C5) ∧ w'.cell? ⟨b, off + x * 6 + 5, none⟩ = some (.slice A4 k4 C4)) (exact ⟨c1, c2, c3, c4⟩)
            (first | (go_simp; go_at_call 14; refine (sameBytes_of A5 L5 C5 p.2 A4 k4 C4 p.2 _ (by exact HD.out.1) (by exact HD.out.2) rfl).mono ?_; rintro e V9 ⟨rfl, rfl⟩))
          all_goals (
            go_wp2
            go_roundw
            case rel => exact ⟨x + 1, by omega, by go_num, T1.out.2.2.2.2.2.2.2.drew⟩
            case measure => simp [intOf]; omega)
        · have hge : (k : Int) ≤ x := by omega
          clear hlt hx
          obtain ⟨vr, hvr⟩ : ∃ vr, vr = wr := ⟨_, rfl⟩
          rw [← hvr] at T1 ⊢
          clear hvr
          go_wp2_with fail
          refine (lentBytes_of A m C (catR 0 rs0) vr T1.out.2.2.2.2.2.1 HC.out.2.1 (by omega)).mono ?_
          rintro e V2 ⟨B2, E2, rfl, o2, b2⟩
          have U2 : Hid (V2.ownsRow vr.heap.size 5 1 (.slice B2 m E2) m (u8s (catR 0 rs0)) ∧ Below q w V2 ∧ q ≤ V2.heap.size ∧ BIn V2 A m (catR 0 rs0) ∧ MIn V2 (.map (some mb)) f ∧ vr.heap.size ≤ V2.heap.size ∧ Below vr.heap.size vr V2) := ⟨o2, T1.out.2.2.2.1.trans (b2.mono T1.out.2.2.2.2.1), Nat.le_trans T1.out.2.2.2.2.1 b2.size, T1.out.2.2.2.2.2.1.below b2, T1.out.2.2.2.2.2.2.1.below b2, b2.size, b2⟩
          clear o2 b2
          go_wp2_with (at_builtin; refine wpList_append_bin rfl (.tmp 129) (.tmp 131) rfl vr.heap.size B2 m E2 (catR 0 rs0) rfl (U2.out.1.alloc _) (some ⟨V2.heap.size, 0, none⟩) 1 1 [a1] rfl (new_bin rfl rfl rfl (by intro z hz; simp only [List.mem_cons, List.not_mem_nil, or_false] at hz; subst hz; exact H.out.2.2.2.2) (by unfold maxLen; omega)) (fun h => by cases h) (by omega) (by have := U2.out.2.2.2.2.2.1; simp; omega) ?_; intro B3 E3 V3 o3 b3)
          have hf3 : ∀ z ∈ catR 0 rs0 ++ [a1], Fits8 z := fun z hz => by rcases List.mem_append.1 hz with h | h; exact HC.out.2.2.2.1 z h; simp only [List.mem_cons, List.not_mem_nil, or_false] at h; subst h; exact H.out.2.2.2.2
          have U3 : Hid (BIn V3 B3 (m + 1) (catR 0 rs0 ++ [a1]) ∧ (B3 = none → m + 1 = 0 ∧ E3 = 0) ∧ m + 1 ≤ E3 ∧ Below q w V3 ∧ q ≤ V3.heap.size ∧ BIn V3 A m (catR 0 rs0) ∧ MIn V3 (.map (some mb)) f) := by
            have bb : Below vr.heap.size vr V3 := (U2.out.2.2.2.2.2.2.alloc U2.out.2.2.2.2.2.1 _).trans b3
            exact ⟨own_bin o3 (by unfold maxLen; omega) hf3, own_nil o3, own_capN o3, T1.out.2.2.2.1.trans (bb.mono T1.out.2.2.2.2.1), Nat.le_trans T1.out.2.2.2.2.1 bb.size, T1.out.2.2.2.2.2.1.below bb, T1.out.2.2.2.2.2.2.1.below bb⟩
          clear o3 b3 hf3
          obtain ⟨Z1, hZ1⟩ : ∃ Z, Z = rpList f (catR 0 rs0 ++ [a1]) := ⟨_, rfl⟩
          refine (replies_of B3 (m + 1) E3 (catR 0 rs0 ++ [a1]) (.map (some mb)) f V3 U3.out.1 U3.out.2.1 U3.out.2.2.1 U3.out.2.2.2.2.2.2 (by omega)).mono ?_
          rw [HC.out.2.2.2.2.2.1, ← hZ1]
          clear hZ1
          rintro e V4 ⟨A6, k6, C6, A7, C7, A8, C8, rfl, -, -, -, b4⟩
          have U4 : Hid (Below q w V4 ∧ q ≤ V4.heap.size ∧ BIn V4 A m (catR 0 rs0) ∧ MIn V4 (.map (some mb)) f) := ⟨U3.out.2.2.2.1.trans (b4.mono U3.out.2.2.2.2.1), Nat.le_trans U3.out.2.2.2.2.1 b4.size, U3.out.2.2.2.2.2.1.below b4, U3.out.2.2.2.2.2.2.below b4⟩
          clear b4
          by_cases hm0 : m = 0
          · subst hm0
            go_wp2
            go_ret
            exact ⟨rfl, U4.out.1⟩
          · have hz : ((m : Int) == 0) = false := by simp [hm0]
            obtain ⟨t, ht⟩ : ∃ t : Nat, (m : Int) - 1 = t := ⟨m - 1, by omega⟩
            have htm : t = m - 1 := by omega
            have hk0 : 0 < k := by
              apply Classical.byContradiction
              intro h
              have hr : rs0 = [] := List.length_eq_zero_iff.1 (by rw [H.out.1.1]; omega)
              have hl := U4.out.2.2.1.1
              rw [hr] at hl
              simp [catR] at hl
              omega
            have hsl := fun w => slice_front Try.underlying22 Try.one_bytes A m C t (by have := HC.out.2.2.1; omega) w
            have hless := HC.out.2.2.2.2.2.2.1 hk0
            rw [← htm] at hless
            have HT : Hid (rpIs f ((catR 0 rs0).take t) = false ∧ t ≤ m ∧ t ≤ 2280) := ⟨hless, by omega, by omega⟩
            clear htm hk0 hless hm0
            go_wp2_with fail
            obtain ⟨Z2, hZ2⟩ : ∃ Z, Z = rpList f ((catR 0 rs0).take t) := ⟨_, rfl⟩
            refine (replies_of A t C ((catR 0 rs0).take t) (.map (some mb)) f V4 ((U4.out.2.2.1.n.front t HT.out.2.1).b) (fun e => by have := HC.out.2.1 e; have := HT.out; omega) (by have := HC.out.2.2.1; have := HT.out; omega) U4.out.2.2.2 (by have := HT.out; omega)).mono ?_
            rw [HT.out.1, ← hZ2]
            clear hZ2
            rintro e V5 ⟨A9, k9, C9, A10, C10, A11, C11, rfl, -, -, -, b5⟩
            have U5 : Hid (Below q w V5) := U4.out.1.trans (b5.mono U4.out.2.1)
            clear b5 hsl
            go_wp2
            go_ret
            exact ⟨rfl, U5.out⟩

set_option maxRecDepth 100000 in
theorem lifted (os : Os) (started : os.Started) (H : Type) (enc : TypeId × Value → H) :
    ReturnsInHanded {} Try.checked os 7 .any (Rows.reqManySpec.pre6 enc Try.prog Try.f7 Rows.reqManyRow.domain false) (Rows.reqManySpec.post enc Try.prog Try.f7 false true false false) := by
  refine returnsInHanded_of_change (C := Try.checked) own started (by kernel_rfl) Try.func7
    (ChangeSpec.witness6 (enc := enc) (C := Try.checked) false ⟨#[], #[.slice none 0 0, .int .u8 0], []⟩ 8 (by kernel_rfl) (by kernel_rfl) (by kernel_rfl) (by kernel_rfl)) ?_
  intro W base args ds gs before hval0 hW hcnd _
  have hval : ∀ (j : Nat) t v, Try.f7.params[j]? = some t → args[j]? = some v → Value.okWide Try.prog W .any base t v := hval0
  have hW' := hW
  obtain ⟨p, q, hA0, hV, rfl, hfz, hnd⟩ := hW
  have hA : DataW.TrodAll enc Try.prog W 0 (fun _ => true) true Try.f7.params.toList args.toList ds p := hA0
  rw [Try.params7] at hA hval
  obtain ⟨v0, vs0, d0, ds0, p0, q0, hargs, rfl, rfl, h0, r0⟩ := trodAll_cons hA
  obtain ⟨v1, vs1, d1, ds1, p1, q1, rfl, rfl, rfl, h1, r1⟩ := trodAll_cons r0
  obtain ⟨rfl, rfl, rfl⟩ := trodAll_nil r1
  obtain rfl : args = #[v0, v1] := by cases args; simp_all
  obtain ⟨rfl, rfl⟩ := trodVars_none hV
  obtain ⟨a0, n0, c0, rfl⟩ := okWide_slice Try.underlying51 (hval 0 51 v0 rfl rfl)
  have k0 := h0
  have lt0 : ∀ x ∈ p0, x.block < W.heap.size := by obtain ⟨m, hm⟩ := k0; exact DataW.trod_lt m _ _ _ hm
  obtain ⟨rs0, w0⟩ := open_requests h0
  obtain ⟨a1, rfl, rfl, rfl, w1⟩ := open_int Try.underlying5 (hval 1 5 v1 rfl rfl) h1
  clear hA0 hval0
  refine (walk a0 n0 c0 rs0 a1 W w0 w1).mono fun e W' ⟨he, bel⟩ => ?_
  subst he
  exact ⟨_, rfl, _, _, _, [], _, [], hW', trodAll_mk1 (shut_bool Try.underlying4 _), (trodAll_cons_mk (Below.trod laidOut (by kernel_rfl) (of_decide_eq_true (by kernel_rfl)) k0 bel lt0) (trodAll_cons_mk (shut_int Try.underlying5 w1) trodAll_mk0)), rfl, bel.frame _, fun h => by cases h⟩

theorem over : Rows.reqManyRow.holds Try.pinned (OpenSpec.ofChange Rows.reqManySpec) :=
  OpenClaim.holds_of_wide 7 Try.f7 rfl rfl rfl rfl rfl rfl rfl ⟨rfl, rfl, rfl, rfl, rfl⟩ rfl rfl rfl rfl rfl (by kernel_rfl) Try.func7 (by kernel_rfl)
    (of_decide_eq_true (by kernel_rfl)) (by unfold Func.isWrapper; first | (rw [if_pos (by decide +kernel)]; kernel_rfl) | (rw [if_neg (by decide +kernel)]; exact ⟨rfl, rfl⟩))
    (fun os started H enc _ => lifted os started H enc)

end Go.Proofs.Ytlfmdplaoalahaa.reqMany
namespace Go.Proofs.Ytlfmdplaoalahaa
/-- The statement. -/
theorem reqMany_holds : Rows.ReqManySaid := reqMany.over
#print axioms reqMany_holds
end Go.Proofs.Ytlfmdplaoalahaa
