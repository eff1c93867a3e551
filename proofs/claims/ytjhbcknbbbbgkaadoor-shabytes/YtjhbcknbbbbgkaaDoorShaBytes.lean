/- For every list of bytes that can be handed in the law ShaBytes returns true, and the list reads as it did. -/
import Derived.Test.YtjhbcknbbbbgkaaDoorRows
import Derived.Test.YtjhbcknbbbbgkaaDoorCards
import Derived.Test.YtjhbcknbbbbgkaaDoorTie
import Derived.Test.YtjhbcknbbbbgkaaDoorLaid
import Derived.Test.YtjhbcknbbbbgkaaDoorSame
import Derived.Stop.Joined
import Derived.SevenTiedAt
import Derived.WalkKit
import Derived.ProofKit
import Derived.OpenShut
import Derived.ShutString
import Derived.ChangeOld
import Derived.Below
namespace Go.Proofs.YtjhbcknbbbbgkaaDoor.shaBytes
open Go.ChangeShapes Go.WideShapes Go.ChangeAt Go.RowKit
open Go.ChangeMaps (open_string shut_string)
set_option linter.unusedVariables false


/-- WHAT THE WALK IS TOLD OF A SLICE OF INTEGERS THAT CAME IN: it is nil; or it leads to a row of 'cap' cells, the numbers 'zs' (the first 'len' are its elements, the rest its spare room), each fitting its kind. -/
def IsRow (k : IntKind) (w : World) (a : Option Addr) (len cap : Nat) (zs : List Int) : Prop :=
  (a = none ∧ len = 0 ∧ cap = 0 ∧ zs = []) ∨
  ∃ x, a = some x ∧ len ≤ cap ∧ cap ≤ maxLen ∧ zs.length = cap ∧ (∀ i, i < zs.length → w.cell? (x.add i) = some (.int k (zs.getD i 0))) ∧ ∀ n ∈ zs, (Lit.int k n).wf = true

theorem one_in {w wr : World} {q b off n k : Nat} {Z : List Int} (hB : BIn w (some ⟨b, off, none⟩) n Z) (hcell : ∀ i, i < n → w.cell? ⟨b, off + i, none⟩ = some (.int .u8 (Z.getD i 0))) (hk : k < n) (hb : Below w.heap.size w wr) (hq : w.heap.size ≤ q) :
    LIn wr q (some ⟨b, off + k, none⟩) 1 [Z.getD k 0] := by
  have hc := hcell k hk
  have hlt : b < w.heap.size := old_block hc
  have hz : Fits8 (Z.getD k 0) := by
    have h1 : k < Z.length := by rw [hB.1]; exact hk
    have e : Z.getD k 0 = Z[k] := by simp [List.getD, h1]
    rw [e]; exact hB.2.2.1 _ (List.getElem_mem h1)
  refine ⟨rfl, by unfold maxLen; omega, by simpa using hz, .inr ⟨b, off + k, rfl, by omega, fun i hi => ?_⟩⟩
  obtain rfl : i = 0 := by omega
  rw [hb.cell (by exact hlt), Nat.add_zero, hc]; rfl
theorem take_one (s : St) (Z : List Int) (k : Nat) (hk : k < Z.length) : takeI s (Z.take (k + 1)) = takeI (takeI s (Z.take k)) [Z.getD k 0] := by
  rw [← takeI_append, List.take_succ_eq_append_getElem hk]; simp [List.getD, hk]
set_option maxHeartbeats 1000000 in
theorem walk (a0 : Option Addr) (len0 cap0 : Nat) (z0 : List Int) (w : World) (hG : GIn w) (w0 : IsRow .u8 w a0 len0 cap0 z0) :
    Calls Tryd.prog 6 #[.slice a0 len0 cap0] w fun e w' => e = .returned (.bool true) ∧ Below w.heap.size w w' := by
  obtain ⟨hB, hc, _⟩ := row_bin w0
  obtain ⟨Z, hZ⟩ : ∃ Z, Z = z0.take len0 := ⟨_, rfl⟩
  rw [← hZ] at hB
  have H : Hid (GIn w ∧ BIn w a0 len0 Z ∧ len0 ≤ cap0) := ⟨hG, hB, hc⟩
  clear hZ w0 hG hB hc
  by_cases l0 : (1200 : Int) < len0
  · go_enter Tryd.func6, Tryd.ntmps6
    go_wp2_with (go_at_call 7; refine (known_any _ H.out.1).mono ?_; rintro e W ⟨rfl, b⟩)
    go_ret
    exact ⟨rfl, b⟩
  · have hl0 : (len0 : Int) ≤ 1200 := by omega
    go_enter Tryd.func6, Tryd.ntmps6
    go_upto_region 3 with (go_at_call 7; refine (known_any _ H.out.1).mono ?_; rintro e W ⟨rfl, bW⟩)
    obtain ⟨q, hq⟩ : ∃ q, W.heap.size = q := ⟨_, rfl⟩
    have HQ : Hid (w.heap.size ≤ q ∧ W.heap.size = q ∧ 1 < q) := ⟨by have := bW.size; omega, hq, by have := bW.size; have := H.out.1.lt; omega⟩
    clear hq
    go_upto_region 4 with (go_at_call 10; refine (new_of W q HQ.out.2.1 (H.out.1.below bW H.out.1.lt).1).mono ?_; rintro e w1 ⟨rfl, h1, b1, z1⟩)
    have bw1 : Below w.heap.size w w1 := bW.trans (b1.mono HQ.out.1)
    clear b1 z1 bW
    go_wp2
    go_loopw [4] (fun i wr => ∃ k : Nat, k ≤ len0 ∧ i = .int .i64 k ∧ HIn wr q (takeI st0 (Z.take k)) ∧ Below w.heap.size w wr)
      (fun i _ => len0 - (intOf i).toNat)
    case atStart => exact ⟨0, by omega, rfl, h1, bw1⟩
    case round =>
      clear h1 bw1
      obtain ⟨k, hk, rfl, hh, hb⟩ := hrel
      by_cases hlt : k < len0
      · have hlt' : (k : Int) < len0 := by omega
        obtain ⟨b, off, ha, hcell⟩ := H.out.2.1.2.2.2.resolve_left (by omega)
        subst ha
        have HL : Hid (LIn wr q (some ⟨b, off + k, none⟩) 1 [Z.getD k 0]) := one_in H.out.2.1 hcell hlt hb HQ.out.1
        have hcc : ¬ cap0 = k := by have := H.out.2.2; omega
        have hcl : (k : Int) + 1 ≤ cap0 := by have := H.out.2.2; omega
        have HT : Hid ((takeI st0 (Z.take k)).T = k) := by
          show _ = _
          rw [takeI_T, List.length_take, H.out.2.1.1]; show 0 + _ = _; omega
        have HN : Hid (takeI (takeI st0 (Z.take k)) [Z.getD k 0] = takeI st0 (Z.take (k + 1)) ∧ (takeI st0 (Z.take (k + 1))).T = k + 1) := by
          refine ⟨(take_one _ _ _ (by rw [H.out.2.1.1]; exact hlt)).symm, ?_⟩
          rw [takeI_T, List.length_take, H.out.2.1.1]; show 0 + _ = _; omega
        clear hcell
        go_upto_region 8 with (go_at_call 11; refine (write_of q 1 _ _ [Z.getD k 0] (takeI st0 (Z.take k)) wr hh HL.out (H.out.1.below hb H.out.1.lt).2 (by have := HQ.out; omega) (by rw [HT.out]; omega) (by have := H.out.2.2; omega)).mono ?_; rintro e w2 ⟨rfl, h2, o2⟩)
        rw [HN.out.1] at h2
        have b2 : Below w.heap.size w w2 := hb.trans (o2.below HQ.out.1 hb.size)
        clear o2 hh hb
        go_wp2_with (go_at_call 13; refine (len_of w2 q _ h2).mono ?_; rintro e w3 ⟨rfl, rfl⟩; rw [HN.out.2])
        go_roundw
        case rel => exact ⟨k + 1, by omega, by go_num, h2, b2⟩
        case measure => simp [intOf]; omega
      · have HK : Hid (takeI st0 (Z.take k) = takeI st0 Z ∧ (takeI st0 Z).T = len0) := by
          have e : Z.take k = Z := List.take_of_length_le (by rw [H.out.2.1.1]; omega)
          refine ⟨by rw [e], ?_⟩
          rw [takeI_T, H.out.2.1.1]; show 0 + _ = _; omega
        rw [HK.out.1] at hh
        have hge : (len0 : Int) ≤ k := by omega
        have HG : Hid (GIn wr) := H.out.1.below hb H.out.1.lt
        go_upto_region 11 with (go_at_call 11; refine (write_of q 0 0 none [] (takeI st0 Z) wr hh ⟨rfl, Nat.zero_le _, by simp, .inl rfl⟩ HG.out.2 (by have := HQ.out; omega) (by rw [HK.out.2]; omega) (Nat.le_refl _)).mono ?_; rintro e w2 ⟨rfl, h2, o2⟩)
        have b2 : Below w.heap.size w w2 := hb.trans (o2.below HQ.out.1 hb.size)
        have HG2 : Hid (GIn w2) := H.out.1.below b2 H.out.1.lt
        have h2' : HIn w2 q (takeI st0 Z) := h2
        clear o2 hh hb h2
        have hes := sum_same (takeI st0 Z)
        go_wp2_with (first
          | (go_at_call 12; refine (digest_of w2 q (takeI st0 Z) h2' HG2.out.2 (by have := HQ.out; omega) (by rw [HK.out.2]; omega)).mono ?_; rintro e w3 ⟨rfl, b3⟩)
          | (go_at_call 8; refine (sum_of a0 len0 cap0 Z w3 (HG2.out.below b3 HG2.out.lt) (H.out.2.1.below (b2.trans (b3.mono b2.size))) (by omega) H.out.2.2).mono ?_; rintro e w4 ⟨rfl, b4⟩))
        have bw4 : Below w.heap.size w w4 := b2.trans ((b3.mono b2.size).trans (b4.mono (by have := b2.size; have := b3.size; omega)))
        go_ret
        exact ⟨rfl, bw4⟩

set_option maxRecDepth 100000 in
theorem lifted (os : Os) (started : os.Started) (H : Type) (enc : TypeId × Value → H) :
    ReturnsInHanded {} Tryd.checked os 6 .any (fun w args => (Rows.shaBytesSpec.pre enc Tryd.prog Tryd.f6 [] false w args ∧ laidMetH Tryd.prog laid2 w) ∧ sizedMet enc Tryd.prog Tryd.f6 (OpenSpec.ofChange Rows.shaBytesSpec) false w args)
      (Rows.shaBytesSpec.post enc Tryd.prog Tryd.f6 false true false false) := by
  refine returnsInHanded_of_change_and (C := Tryd.checked) (X := fun w _ => laidMetH Tryd.prog laid2 w) (fun _ _ _ hh h => h.of_heap hh) own started (by kernel_rfl) Tryd.func6
    (ChangeSpec.witness_shaped (enc := enc) (C := Tryd.checked) (os := os) (X := fun w _ => laidMetH Tryd.prog laid2 w) false (World.doorLaid Tryd.prog 400 os) #[.slice none 0 0] 8 rfl (World.shaped_of_RefB (by kernel_rfl) (by kernel_rfl)) (by kernel_rfl) (by kernel_rfl) (by kernel_rfl) (door_met os _)) ?_
  intro W base args ds gs before hval0 hW hcnd _ hL _
  have hval : ∀ (j : Nat) t v, Tryd.f6.params[j]? = some t → args[j]? = some v → Value.okWide Tryd.prog W .any base t v := hval0
  have hW' := hW
  obtain ⟨p, q, hA0, hV, rfl, hfz, hnd⟩ := hW
  have hA : DataW.TrodAll enc Tryd.prog W 0 (fun _ => true) true Tryd.f6.params.toList args.toList ds p := hA0
  rw [Tryd.params6] at hA hval
  obtain ⟨v0, vs0, d0, ds0, p0, q0, hargs, rfl, rfl, h0, r0⟩ := trodAll_cons hA
  obtain ⟨rfl, rfl, rfl⟩ := trodAll_nil r0
  obtain rfl : args = #[v0] := by cases args; simp_all
  obtain ⟨rfl, rfl⟩ := trodVars_none hV
  obtain ⟨a0, len0, cap0, rfl⟩ := okWide_slice Tryd.underlying22 (hval 0 22 v0 rfl rfl)
  have k0 := h0
  have lt0 : ∀ x ∈ p0, x.block < W.heap.size := by obtain ⟨m, hm⟩ := k0; exact DataW.trod_lt m _ _ _ hm
  obtain ⟨z0, w0⟩ : ∃ zs, IsRow .u8 W a0 len0 cap0 zs := by
    obtain ⟨fuel, hf⟩ := h0
    rcases open_ints Tryd.underlying22 Tryd.underlying5 (by kernel_rfl) hf with ⟨hcs, _⟩ | ⟨x, l, c, zs, hcs, _, hl, hm, hz, _, hcell, hwz⟩
    · simp [Value.cells] at hcs
      obtain ⟨rfl, rfl, rfl⟩ := hcs
      exact ⟨[], .inl ⟨rfl, rfl, rfl, rfl⟩⟩
    · simp [Value.cells] at hcs
      obtain ⟨rfl, rfl, rfl⟩ := hcs
      exact ⟨zs, .inr ⟨_, rfl, hl, hm, by simpa using hz, hcell, hwz⟩⟩
  clear hA0 hval0
  refine (walk a0 len0 cap0 z0 W (of_laid hL) w0).mono fun e W' ⟨he, bel⟩ => ?_
  subst he
  exact ⟨_, rfl, _, _, _, [], _, [], hW', trodAll_mk1 (shut_bool Tryd.underlying4 _), (trodAll_cons_mk (Below.trod laidOut (by kernel_rfl) (of_decide_eq_true (by kernel_rfl)) k0 bel lt0) trodAll_mk0), rfl, bel.frame _, fun h => by cases h⟩

theorem over : Rows.shaBytesRow.holds Tryd.pinned (OpenSpec.ofChange Rows.shaBytesSpec) :=
  OpenClaim.holds_of_wide 6 Tryd.f6 rfl rfl rfl rfl rfl rfl rfl ⟨rfl, rfl, rfl, rfl, rfl⟩ rfl rfl rfl rfl rfl (by kernel_rfl) Tryd.func6 (by kernel_rfl)
    (of_decide_eq_true (by kernel_rfl)) (by unfold Func.isWrapper; first | (rw [if_pos (by decide +kernel)]; kernel_rfl) | (rw [if_neg (by decide +kernel)]; exact ⟨rfl, rfl⟩))
    (fun os started H enc _ => lifted os started H enc)

theorem said : Rows.ShaBytesSaid := over
end Go.Proofs.YtjhbcknbbbbgkaaDoor.shaBytes
namespace Go.Proofs.YtjhbcknbbbbgkaaDoor
/-- The tied card. -/
theorem shaBytes_card : Rows.ShaBytesCardSaid :=
  Claim7.holds_tied_plain_at .later [] [.data, .data] true (true, "4a458099d0066d3635fa7948cc792fe0ce29d52b8a17ca1574f688b5700ba112") false
    shaBytes.said (fun _ h => by cases h) (by kernel_rfl) (fun _ h => by cases h) shaBytes_row_tie rfl ⟨rfl, rfl⟩ (by kernel_rfl) rfl
    (fun f fn hf hfn => by
      obtain rfl : f = 6 := Option.some.inj ((show Tryd.prog.funcNamed "coaming/coaminglaw02.ShaBytes" = some 6 by kernel_rfl).symm.trans hf) |>.symm
      obtain rfl : fn = Tryd.f6 := (Option.some.inj (Tryd.func6.symm.trans hfn)).symm
      exact ⟨by kernel_rfl, fun j t ht => by
        rw [Tryd.params6] at ht
        have hm : t ∈ [22] := by simpa using Array.mem_of_getElem? ht
        have hall : ([22].all fun u => !Tryd.prog.wantsStandIn u) = true := by kernel_rfl
        exact (show Tryd.prog.wantsStandIn t = false by simpa using List.all_eq_true.1 hall t hm)⟩)
    (by kernel_rfl)
#print axioms shaBytes_card
end Go.Proofs.YtjhbcknbbbbgkaaDoor
