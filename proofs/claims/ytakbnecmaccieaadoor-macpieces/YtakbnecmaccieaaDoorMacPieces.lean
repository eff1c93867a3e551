/- For every list of bytes and every list of lists of bytes that can be handed in the law MacPieces returns true, and the lists read as they did. -/
import Derived.Test.YtakbnecmaccieaaDoorRows
import Derived.Test.YtakbnecmaccieaaDoorCards
import Derived.Test.YtakbnecmaccieaaDoorTie
import Derived.Test.YtakbnecmaccieaaDoorLaid
import Derived.Test.YtakbnecmaccieaaDoorFar
import Derived.Stop.Joined
import Derived.SevenTiedAt
import Derived.WalkKit
import Derived.ProofKit
import Derived.OpenShut
import Derived.ShutString
import Derived.ChangeOld
import Derived.Below
import Derived.Deep.Matrix
namespace Go.Proofs.YtakbnecmaccieaaDoor.macPieces
open Go.ChangeShapes Go.WideShapes Go.ChangeAt Go.RowKit
open Go.ChangeMaps (open_string shut_string)
set_option linter.unusedVariables false


/-- WHAT THE WALK IS TOLD OF A SLICE OF INTEGERS THAT CAME IN: it is nil; or it leads to a row of 'cap' cells, the numbers 'zs' (the first 'len' are its elements, the rest its spare room), each fitting its kind. -/
def IsRow (k : IntKind) (w : World) (a : Option Addr) (len cap : Nat) (zs : List Int) : Prop :=
  (a = none ∧ len = 0 ∧ cap = 0 ∧ zs = []) ∨
  ∃ x, a = some x ∧ len ≤ cap ∧ cap ≤ maxLen ∧ zs.length = cap ∧ (∀ i, i < zs.length → w.cell? (x.add i) = some (.int k (zs.getD i 0))) ∧ ∀ n ∈ zs, (Lit.int k n).wf = true

theorem join_one (Y : List Int) : joinN (fun _ => Y) 1 = Y := by simp [joinN]
set_option maxHeartbeats 1500000 in
theorem walk (a0 : Option Addr) (len0 cap0 : Nat) (z0 : List Int) (a1 : Option Addr) (len1 cap1 : Nat) (A : Nat → Option Addr) (L C : Nat → Nat) (Z : Nat → List Int) (w : World) (hG : GIn w) (w0 : IsRow .u8 w a0 len0 cap0 z0) (w1 : IsRows w a1 len1 cap1 A L C Z) :
    Calls Tryd.prog 4 #[.slice a0 len0 cap0, .slice a1 len1 cap1] w fun e w' => e = .returned (.bool true) ∧ Below w.heap.size w w' := by
  obtain ⟨hB0, hc0, _⟩ := row_bin w0
  obtain ⟨hB1, hm1⟩ := rows_in w1
  obtain ⟨X, hX⟩ : ∃ X, X = z0.take len0 := ⟨_, rfl⟩
  obtain ⟨P, hP⟩ : ∃ P : Nat → List Int, P = fun r => (Z r).take (L r) := ⟨_, rfl⟩
  rw [← hX] at hB0
  rw [← hP] at hB1
  unfold maxLen at hm1
  have H : Hid (GIn w ∧ (BIn w a0 len0 X ∧ len0 ≤ cap0) ∧ PsIn w a1 len1 P) := ⟨hG, ⟨hB0, hc0⟩, hB1⟩
  clear hX hP w0 w1 hG hB0 hB1 hc0
  by_cases l0 : (800 : Int) < len0
  · go_enter Tryd.func4, Tryd.ntmps4
    go_wp2_with (go_at_call 8; refine (mknown_any _ H.out.1).mono ?_; rintro e W ⟨rfl, b⟩)
    go_ret
    exact ⟨rfl, b⟩
  · have hl0 : (len0 : Int) ≤ 800 := by omega
    by_cases l1 : (30 : Int) < len1
    · go_enter Tryd.func4, Tryd.ntmps4
      go_wp2_with (go_at_call 8; refine (mknown_any _ H.out.1).mono ?_; rintro e W ⟨rfl, b⟩)
      go_ret
      exact ⟨rfl, b⟩
    · have hl1 : (len1 : Int) ≤ 30 := by omega
      go_enter Tryd.func4, Tryd.ntmps4
      go_upto_region 3 with (go_at_call 8; refine (mknown_any _ H.out.1).mono ?_; rintro e W ⟨rfl, bW⟩)
      obtain ⟨q, hq⟩ : ∃ q, q = W.heap.size := ⟨_, rfl⟩
      have HQ : Hid (q = W.heap.size ∧ w.heap.size ≤ q) := ⟨hq, by rw [hq]; exact bW.size⟩
      clear hq
      go_wp2
      go_loopw [5, 6] (fun al i wr => ∃ (k : Nat) (A' : Option Addr) (N C' : Nat), k ≤ len1 ∧ i = .int .i64 k ∧ al = .slice A' N C' ∧ N ≤ 200 * k ∧ wr.ownsRow q 5 1 (.slice A' N C') N (u8s (joinN P k)) ∧ Below w.heap.size w wr ∧ q ≤ wr.heap.size ∧ (∀ z ∈ joinN P k, Fits8 z) ∧ ∀ r, r < k → (P r).length ≤ 1000000)
        (fun _ i _ => len1 - (intOf i).toNat)
      case atStart => exact ⟨0, none, 0, 0, by omega, rfl, rfl, by omega, World.ownsRow_nil _ _ _ _, bW, by rw [HQ.out.1]; exact Nat.le_refl _, by simp [joinN], fun r hr => by omega⟩
      case round =>
        clear bW
        obtain ⟨k, A', N, C', hk, rfl, rfl, hN, how, hb, hsz, hfit, hpl⟩ := hrel
        have HI : Hid (N ≤ 200 * k ∧ wr.ownsRow q 5 1 (.slice A' N C') N (u8s (joinN P k)) ∧ Below w.heap.size w wr ∧ q ≤ wr.heap.size ∧ (∀ z ∈ joinN P k, Fits8 z) ∧ ∀ r, r < k → (P r).length ≤ 1000000) := ⟨hN, how, hb, hsz, hfit, hpl⟩
        have N0 : (N : Int) ≤ 6000 := by omega
        clear hN how hb hsz hfit hpl
        by_cases hlt : k < len1
        · have hlt' : (k : Int) < len1 := by omega
          obtain ⟨b, off, ha, hrow⟩ := H.out.2.2.resolve_left (by omega)
          subst ha
          obtain ⟨ak, lk, ck, hc, hbk, hcap, hnil⟩ := hrow k hlt
          have hck : wr.cell? ⟨b, off + k, none⟩ = some (.slice ak lk ck) := by rw [HI.out.2.2.1.cell (old_block hc)]; exact hc
          have HK : Hid (BIn wr ak lk (P k) ∧ (ak = none → lk = 0 ∧ ck = 0)) := ⟨hbk.below HI.out.2.2.1, hnil⟩
          clear hrow hc hbk hcap hnil
          by_cases h200 : (200 : Int) < lk
          · go_wp2
            go_ret
            exact ⟨rfl, HI.out.2.2.1⟩
          · have h200' : (lk : Int) ≤ 200 := by omega
            go_wp2_with (at_builtin; refine wpList_append_bin rfl (.tmp 32) (.tmp 36) rfl q A' N C' (joinN P k) rfl HI.out.2.1 ak lk ck (P k) rfl HK.out.1 HK.out.2 (by omega) HI.out.2.2.2.1 ?_; intro A2 C2 u2 ow3 bu)
            have b3 : Below w.heap.size w u2 := HI.out.2.2.1.trans (bu.mono HQ.out.2)
            have z3 : q ≤ u2.heap.size := by have := bu.size; have := HI.out.2.2.2.1; omega
            have f3 : ∀ z ∈ joinN P (k + 1), Fits8 z := by
              intro z hz
              rcases List.mem_append.1 hz with h | h
              · exact HI.out.2.2.2.2.1 z h
              · exact HK.out.1.2.2.1 z h
            have l3 : ∀ r, r < k + 1 → (P r).length ≤ 1000000 := by
              intro r hr
              by_cases hrk : r = k
              · rw [hrk, HK.out.1.1]; omega
              · exact HI.out.2.2.2.2.2 r (by omega)
            go_roundw
            case rel => exact ⟨k + 1, A2, N + lk, C2, by omega, by go_num, rfl, by have := HI.out.1; omega, ow3, b3, z3, f3, l3⟩
            case measure => simp [intOf]; omega
        · have hge : (len1 : Int) ≤ k := by omega
          obtain ⟨Y, hY⟩ : ∃ Y, Y = joinN P len1 := ⟨_, rfl⟩
          obtain ⟨D, hD⟩ : ∃ D, D = ofI X Y := ⟨_, rfl⟩
          have HY : Hid (Y = joinN P len1 ∧ D = ofI X Y ∧ BIn wr A' N Y ∧ N ≤ C' ∧ (A' = none → N = 0 ∧ C' = 0) ∧ (∀ r, r < len1 → (P r).length ≤ 1000000) ∧ D.length = 32) := by
            have e : k = len1 := by omega
            have ho := HI.out.2.1
            have hf := HI.out.2.2.2.2.1
            have hl := HI.out.2.2.2.2.2
            rw [e, ← hY] at ho hf
            rw [e] at hl
            exact ⟨hY, hD, own_bin ho (by unfold maxLen; omega) hf, own_cap ho, own_nil ho, hl, by rw [hD, ofI_length]⟩
          have HB : Hid (Below w.heap.size w wr ∧ GIn wr ∧ BIn wr a0 len0 X ∧ PsIn wr a1 len1 P) := ⟨HI.out.2.2.1, H.out.1.below HI.out.2.2.1 H.out.1.lt, H.out.2.1.1.below HI.out.2.2.1, H.out.2.2.below HI.out.2.2.1⟩
          have hes := fun w => eq_same D HY.out.2.2.2.2.2.2 w
          clear hY hD HI
          have O1 := of_of a0 len0 cap0 X a1 len1 cap1 P wr HB.out.2.1 HB.out.2.2.1 (by omega) H.out.2.1.2 HB.out.2.2.2 (by omega) HY.out.2.2.2.2.2.1
          rw [← HY.out.1, ← HY.out.2.1] at O1
          go_wp2_with fail
          refine O1.mono ?_
          rintro e w3 ⟨rfl, b3⟩
          clear O1
          have HC : Hid (GIn w3 ∧ BIn w3 a0 len0 X ∧ BIn w3 A' N Y) := ⟨HB.out.2.1.below b3 HB.out.2.1.lt, HB.out.2.2.1.below b3, HY.out.2.2.1.below b3⟩
          have O2 := of_of a0 len0 cap0 X (some ⟨w3.heap.size, 0, none⟩) 1 1 (fun _ => Y) (w3.alloc (.cells #[.slice A' N C'] 22)) (HC.out.1.alloc _) (HC.out.2.1.alloc _) (by omega) H.out.2.1.2 (one_ps rfl HC.out.2.2 HY.out.2.2.2.1 HY.out.2.2.2.2.1) (by omega) (fun r _ => by show Y.length ≤ _; rw [HY.out.2.2.1.1]; omega)
          rw [join_one, ← HY.out.2.1] at O2
          go_wp2_with fail
          refine O2.mono ?_
          rintro e w4 ⟨rfl, b4⟩
          clear O2
          go_wp2
          go_ret
          have h1 := b3.size
          have h2 := HB.out.1.size
          exact ⟨rfl, (HB.out.1.trans (b3.mono h2)).trans (((Below.refl _ _).alloc (by omega) _).trans (b4.mono (by simp; omega)))⟩

set_option maxRecDepth 100000 in
theorem lifted (os : Os) (started : os.Started) (H : Type) (enc : TypeId × Value → H) :
    ReturnsInHanded {} Tryd.checked os 4 .any (fun w args => (Rows.macPiecesSpec.pre enc Tryd.prog Tryd.f4 [] false w args ∧ laidMetH Tryd.prog laid2 w) ∧ sizedMet enc Tryd.prog Tryd.f4 (OpenSpec.ofChange Rows.macPiecesSpec) false w args)
      (Rows.macPiecesSpec.post enc Tryd.prog Tryd.f4 false true false false) := by
  refine returnsInHanded_of_change_and (C := Tryd.checked) (X := fun w _ => laidMetH Tryd.prog laid2 w) (fun _ _ _ hh h => h.of_heap hh) own started (by kernel_rfl) Tryd.func4
    (ChangeSpec.witness_shaped (enc := enc) (C := Tryd.checked) (os := os) (X := fun w _ => laidMetH Tryd.prog laid2 w) false (World.doorLaid Tryd.prog 400 os) #[.slice none 0 0, .slice none 0 0] 8 rfl (World.shaped_of_RefB (by kernel_rfl) (by kernel_rfl)) (by kernel_rfl) (by kernel_rfl) (by kernel_rfl) (door_met os _)) ?_
  intro W base args ds gs before hval0 hW hcnd _ hL _
  have hval : ∀ (j : Nat) t v, Tryd.f4.params[j]? = some t → args[j]? = some v → Value.okWide Tryd.prog W .any base t v := hval0
  have hW' := hW
  obtain ⟨p, q, hA0, hV, rfl, hfz, hnd⟩ := hW
  have hA : DataW.TrodAll enc Tryd.prog W 0 (fun _ => true) true Tryd.f4.params.toList args.toList ds p := hA0
  rw [Tryd.params4] at hA hval
  obtain ⟨v0, vs0, d0, ds0, p0, q0, hargs, rfl, rfl, h0, r0⟩ := trodAll_cons hA
  obtain ⟨v1, vs1, d1, ds1, p1, q1, rfl, rfl, rfl, h1, r1⟩ := trodAll_cons r0
  obtain ⟨rfl, rfl, rfl⟩ := trodAll_nil r1
  obtain rfl : args = #[v0, v1] := by cases args; simp_all
  obtain ⟨rfl, rfl⟩ := trodVars_none hV
  obtain ⟨a0, len0, cap0, rfl⟩ := okWide_slice Tryd.underlying22 (hval 0 22 v0 rfl rfl)
  have k0 := h0
  have lt0 : ∀ x ∈ p0, x.block < W.heap.size := by obtain ⟨m, hm⟩ := k0; exact DataW.trod_lt m _ _ _ hm
  obtain ⟨z0, w0⟩ : ∃ zs, IsRow .u8 W a0 len0 cap0 zs := by
    obtain ⟨fuel, hf⟩ := h0
    rcases open_ints Tryd.underlying22 Tryd.underlying5 (by kernel_rfl) hf with ⟨hcs, _⟩ | ⟨x, l, c, zs, hcs, _, hl, hm, hz, _, hcell, hwz⟩
    · simp [Value.cells] at hcs
      obtain ⟨rfl, rfl, rfl⟩ := hcs
      exact ⟨[], .inl ⟨rfl, rfl, rfl, rfl⟩⟩
    · simp [Value.cells] at hcs
      obtain ⟨rfl, rfl, rfl⟩ := hcs
      exact ⟨zs, .inr ⟨_, rfl, hl, hm, by simpa using hz, hcell, hwz⟩⟩
  obtain ⟨a1, len1, cap1, rfl⟩ := okWide_slice Tryd.underlying29 (hval 1 29 v1 rfl rfl)
  have k1 := h1
  have lt1 : ∀ x ∈ p1, x.block < W.heap.size := by obtain ⟨m, hm⟩ := k1; exact DataW.trod_lt m _ _ _ hm
  obtain ⟨A, L, C, Z, w1⟩ : ∃ A L C Z, IsRows W a1 len1 cap1 A L C Z := by
    obtain ⟨fuel, hf⟩ := h1
    rcases Deep.open_int_rows Tryd.underlying29 Tryd.underlying22 Tryd.underlying5 (by kernel_rfl) (by kernel_rfl) hf with ⟨hcs, _⟩ | ⟨x, l, c, A, L, C, Z, hcs, _, hl, hm, _, hr⟩
    · simp [Value.cells] at hcs
      obtain ⟨rfl, rfl, rfl⟩ := hcs
      exact ⟨fun _ => none, fun _ => 0, fun _ => 0, fun _ => [], .inl ⟨rfl, rfl, rfl⟩⟩
    · simp [Value.cells] at hcs
      obtain ⟨rfl, rfl, rfl⟩ := hcs
      exact ⟨A, L, C, Z, .inr ⟨_, rfl, hl, hm, hr⟩⟩
  clear hA0 hval0
  refine (walk a0 len0 cap0 z0 a1 len1 cap1 A L C Z W (of_laid hL) w0 w1).mono fun e W' ⟨he, bel⟩ => ?_
  subst he
  exact ⟨_, rfl, _, _, _, [], _, [], hW', trodAll_mk1 (shut_bool Tryd.underlying4 _), (trodAll_cons_mk (Below.trod laidOut (by kernel_rfl) (of_decide_eq_true (by kernel_rfl)) k0 bel lt0) (trodAll_cons_mk (Below.trod laidOut (by kernel_rfl) (of_decide_eq_true (by kernel_rfl)) k1 bel lt1) trodAll_mk0)), rfl, bel.frame _, fun h => by cases h⟩

theorem over : Rows.macPiecesRow.holds Tryd.pinned (OpenSpec.ofChange Rows.macPiecesSpec) :=
  OpenClaim.holds_of_wide 4 Tryd.f4 rfl rfl rfl rfl rfl rfl rfl ⟨rfl, rfl, rfl, rfl, rfl⟩ rfl rfl rfl rfl rfl (by kernel_rfl) Tryd.func4 (by kernel_rfl)
    (of_decide_eq_true (by kernel_rfl)) (by unfold Func.isWrapper; first | (rw [if_pos (by decide +kernel)]; kernel_rfl) | (rw [if_neg (by decide +kernel)]; exact ⟨rfl, rfl⟩))
    (fun os started H enc _ => lifted os started H enc)

theorem said : Rows.MacPiecesSaid := over
end Go.Proofs.YtakbnecmaccieaaDoor.macPieces
namespace Go.Proofs.YtakbnecmaccieaaDoor
/-- The tied card. -/
theorem macPieces_card : Rows.MacPiecesCardSaid :=
  Claim7.holds_tied_plain_at .later [] [.data, .data] true (true, "ec37803ce0c76b2e91dc930df1b1b4d433909658e8f2fe1d19451ce5ea3400a0") false
    macPieces.said (fun _ h => by cases h) (by kernel_rfl) (fun _ h => by cases h) macPieces_row_tie rfl ⟨rfl, rfl⟩ (by kernel_rfl) rfl
    (fun f fn hf hfn => by
      obtain rfl : f = 4 := Option.some.inj ((show Tryd.prog.funcNamed "coaming/coaminglaw03.MacPieces" = some 4 by kernel_rfl).symm.trans hf) |>.symm
      obtain rfl : fn = Tryd.f4 := (Option.some.inj (Tryd.func4.symm.trans hfn)).symm
      exact ⟨by kernel_rfl, fun j t ht => by
        rw [Tryd.params4] at ht
        have hm : t ∈ [22,29] := by simpa using Array.mem_of_getElem? ht
        have hall : ([22,29].all fun u => !Tryd.prog.wantsStandIn u) = true := by kernel_rfl
        exact (show Tryd.prog.wantsStandIn t = false by simpa using List.all_eq_true.1 hall t hm)⟩)
    (by kernel_rfl)
#print axioms macPieces_card
end Go.Proofs.YtakbnecmaccieaaDoor
