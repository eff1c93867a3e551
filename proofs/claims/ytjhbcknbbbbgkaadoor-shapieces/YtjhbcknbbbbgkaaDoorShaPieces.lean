/- For every list of lists of bytes that can be handed in the law ShaPieces returns true, and the lists read as they did. -/
import Derived.Test.YtjhbcknbbbbgkaaDoorRows
import Derived.Test.YtjhbcknbbbbgkaaDoorCards
import Derived.Test.YtjhbcknbbbbgkaaDoorTie
import Derived.Test.YtjhbcknbbbbgkaaDoorLaid
import Derived.Test.YtjhbcknbbbbgkaaDoorSame
import Derived.Test.YtjhbcknbbbbgkaaDoorApp
import Derived.Stop.Joined
import Derived.SevenTiedAt
import Derived.WalkKit
import Derived.ProofKit
import Derived.OpenShut
import Derived.ShutString
import Derived.ChangeOld
import Derived.Below
import Derived.Deep.Matrix
namespace Go.Proofs.YtjhbcknbbbbgkaaDoor.shaPieces
open Go.ChangeShapes Go.WideShapes Go.ChangeAt Go.RowKit
open Go.ChangeMaps (open_string shut_string)
set_option linter.unusedVariables false


def IsRows (w : World) (a : Option Addr) (len cap : Nat) (A : Nat → Option Addr) (L C : Nat → Nat) (Z : Nat → List Int) : Prop :=
  (a = none ∧ len = 0 ∧ cap = 0) ∨
  ∃ x, a = some x ∧ len ≤ cap ∧ cap ≤ maxLen ∧ ∀ r, r < cap → w.cell? (x.add r) = some (.slice (A r) (L r) (C r)) ∧ L r ≤ C r ∧ C r ≤ maxLen ∧ (Z r).length = C r ∧ (∀ n ∈ Z r, (Lit.int .u8 n).wf = true) ∧ (A r = none → C r = 0) ∧
    ∀ a', A r = some a' → 0 ≤ a'.block ∧ ∀ c, c < C r → w.cell? (a'.add c) = some (.int .u8 ((Z r).getD c 0))

theorem own_only {w w' : World} {g base : Nat} {v : Value} {n : Nat} {xs : List Value} (h : w.ownsRow base 5 1 v n xs) (ho : Only g w w') (hg : g < base) : w'.ownsRow base 5 1 v n xs := by
  obtain ⟨h1, h2⟩ := h
  refine ⟨h1, ?_⟩
  rcases h2 with h2 | ⟨k, cap, cur, hv, hb, hk, hr⟩
  · exact .inl h2
  · exact .inr ⟨k, cap, cur, hv, hb, by rw [ho.block k (Array.getElem?_eq_some_iff.1 hk).1 (by omega)]; exact hk, hr⟩
/-- Lists of bytes whose headers lie one behind the other. -/
def LsIn (w : World) (a : Option Addr) (len : Nat) (A : Nat → Option Addr) (L C : Nat → Nat) (Z : Nat → List Int) : Prop :=
  len = 0 ∨ ∃ b off, a = some ⟨b, off, none⟩ ∧ ∀ r, r < len → w.cell? ⟨b, off + r, none⟩ = some (.slice (A r) (L r) (C r)) ∧ BIn w (A r) (L r) ((Z r).take (L r)) ∧ L r ≤ C r ∧ (A r = none → L r = 0 ∧ C r = 0)
theorem rows_in {w : World} {a : Option Addr} {len cap : Nat} {A : Nat → Option Addr} {L C : Nat → Nat} {Z : Nat → List Int} (h : IsRows w a len cap A L C Z) : LsIn w a len A L C Z ∧ len ≤ maxLen := by
  rcases h with ⟨rfl, rfl, rfl⟩ | ⟨x, rfl, hl, hm, hr⟩
  · exact ⟨.inl rfl, Nat.zero_le _⟩
  · refine ⟨?_, Nat.le_trans hl hm⟩
    by_cases h0 : len = 0
    · exact .inl h0
    · have hc0 := (hr 0 (by omega)).1
      obtain ⟨b, off, spot⟩ := x
      have hs : spot = none := by simpa [Addr.add] using World.cell?_spot hc0
      subst hs
      refine .inr ⟨b, off, rfl, fun r hlt => ?_⟩
      obtain ⟨hc, h1, h2, h3, h4, h5, h6⟩ := hr r (by omega)
      rw [Addr.add_mid] at hc
      have hrow : (A r = none ∧ L r = 0 ∧ C r = 0 ∧ Z r = []) ∨ ∃ x, A r = some x ∧ L r ≤ C r ∧ C r ≤ maxLen ∧ (Z r).length = C r ∧ (∀ i, i < (Z r).length → w.cell? (x.add i) = some (.int .u8 ((Z r).getD i 0))) ∧ ∀ n ∈ Z r, (Lit.int .u8 n).wf = true := by
        cases hA : A r with
        | none => have := h5 hA; exact .inl ⟨rfl, by omega, this, List.length_eq_zero_iff.1 (by omega)⟩
        | some y => exact .inr ⟨y, rfl, h1, h2, h3, fun i hi => (h6 y hA).2 i (by omega), h4⟩
      have := row_bin hrow
      exact ⟨hc, this.1, this.2.1, this.2.2⟩
def catN (L : Nat → Nat) (Z : Nat → List Int) : Nat → List Int
  | 0 => []
  | k + 1 => catN L Z k ++ (Z k).take (L k)
set_option maxHeartbeats 2000000 in
theorem walk (a0 : Option Addr) (len0 cap0 : Nat) (A : Nat → Option Addr) (L C : Nat → Nat) (Z : Nat → List Int) (w : World) (hG : GIn w) (w0 : IsRows w a0 len0 cap0 A L C Z) :
    Calls Tryd.prog 4 #[.slice a0 len0 cap0] w fun e w' => e = .returned (.bool true) ∧ Below w.heap.size w w' := by
  obtain ⟨hB, hm⟩ := rows_in w0
  unfold maxLen at hm
  have H : Hid (GIn w ∧ LsIn w a0 len0 A L C Z) := ⟨hG, hB⟩
  clear w0 hG hB
  by_cases l0 : (50 : Int) < len0
  · go_enter Tryd.func4, Tryd.ntmps4
    go_wp2_with (go_at_call 7; refine (known_any _ H.out.1).mono ?_; rintro e W ⟨rfl, b⟩)
    go_ret
    exact ⟨rfl, b⟩
  · have hl0 : (len0 : Int) ≤ 50 := by omega
    go_enter Tryd.func4, Tryd.ntmps4
    go_upto_region 3 with (go_at_call 7; refine (known_any _ H.out.1).mono ?_; rintro e W ⟨rfl, bW⟩)
    obtain ⟨q, hq⟩ : ∃ q, W.heap.size = q := ⟨_, rfl⟩
    have HQ : Hid (w.heap.size ≤ q ∧ W.heap.size = q ∧ 1 < q) := ⟨by have := bW.size; omega, hq, by have := bW.size; have := H.out.1.lt; omega⟩
    clear hq
    go_upto_region 4 with (go_at_call 10; refine (new_of W q HQ.out.2.1 (H.out.1.below bW H.out.1.lt).1).mono ?_; rintro e w1 ⟨rfl, h1, b1, z1⟩)
    have bw1 : Below w.heap.size w w1 := bW.trans (b1.mono HQ.out.1)
    have HZ1 : Hid (w1.heap.size = q + 1) := z1
    clear b1 z1 bW
    go_wp2
    go_loopw [4, 5] (fun al i wr => ∃ (k : Nat) (A' : Option Addr) (N C' : Nat), k ≤ len0 ∧ i = .int .i64 k ∧ al = .slice A' N C' ∧ N ≤ 300 * k ∧ wr.ownsRow (q + 1) 5 1 (.slice A' N C') N (u8s (catN L Z k)) ∧ HIn wr q (takeI st0 (catN L Z k)) ∧ Below w.heap.size w wr ∧ q + 1 ≤ wr.heap.size ∧ (∀ z ∈ catN L Z k, Fits8 z))
      (fun _ i _ => len0 - (intOf i).toNat)
    case atStart => exact ⟨0, none, 0, 0, by omega, rfl, rfl, by omega, World.ownsRow_nil _ _ _ _, h1, bw1, by rw [HZ1.out]; omega, by simp [catN]⟩
    case round =>
      clear h1 bw1
      obtain ⟨k, A', N, C', hk, rfl, rfl, hN, how, hh, hb, hsz, hfit⟩ := hrel
      have HI : Hid (N ≤ 300 * k ∧ wr.ownsRow (q + 1) 5 1 (.slice A' N C') N (u8s (catN L Z k)) ∧ HIn wr q (takeI st0 (catN L Z k)) ∧ Below w.heap.size w wr ∧ q + 1 ≤ wr.heap.size ∧ (∀ z ∈ catN L Z k, Fits8 z) ∧ (catN L Z k).length = N) :=
        ⟨hN, how, hh, hb, hsz, hfit, by have := how.1; simpa [u8s] using this⟩
      have N0 : (N : Int) ≤ 15000 := by omega
      clear hN how hh hb hsz hfit
      by_cases hlt : k < len0
      · have hlt' : (k : Int) < len0 := by omega
        obtain ⟨b, off, ha, hrow⟩ := H.out.2.resolve_left (by omega)
        subst ha
        obtain ⟨hc, hbk, hcap, hnil⟩ := hrow k hlt
        have hck : wr.cell? ⟨b, off + k, none⟩ = some (.slice (A k) (L k) (C k)) := by rw [HI.out.2.2.2.1.cell (old_block hc)]; exact hc
        have HBW : Hid (b < w.heap.size) := old_block hc
        obtain ⟨ak, hak⟩ : ∃ x, x = A k := ⟨_, rfl⟩
        obtain ⟨lk, hlk⟩ : ∃ x, x = L k := ⟨_, rfl⟩
        obtain ⟨ck, hcke⟩ : ∃ x, x = C k := ⟨_, rfl⟩
        obtain ⟨zk, hzk⟩ : ∃ x, x = (Z k).take (L k) := ⟨_, rfl⟩
        have hcat : catN L Z (k + 1) = catN L Z k ++ zk := by rw [hzk]; rfl
        rw [← hak, ← hlk, ← hcke] at hck
        have HK : Hid (BIn w ak lk zk ∧ lk ≤ ck ∧ (ak = none → lk = 0 ∧ ck = 0) ∧ catN L Z (k + 1) = catN L Z k ++ zk) := ⟨by rw [hak, hlk, hzk]; exact hbk, by rw [hlk, hcke]; exact hcap, by rw [hak, hlk, hcke]; exact hnil, hcat⟩
        clear hrow hc hbk hcap hnil hak hlk hcke hzk hcat
        by_cases h300 : (300 : Int) < lk
        · go_wp2
          go_ret
          exact ⟨rfl, HI.out.2.2.2.1⟩
        · have h300' : (lk : Int) ≤ 300 := by omega
          go_upto_region 11 with (go_at_call 11; refine (write_of q lk ck ak zk (takeI st0 (catN L Z k)) wr HI.out.2.2.1 (HK.out.1.lin HI.out.2.2.2.1 HQ.out.1) (H.out.1.below HI.out.2.2.2.1 H.out.1.lt).2 (by have := HQ.out; omega) (by rw [takeI_T, HI.out.2.2.2.2.2.2]; show 0 + N + lk < _; omega) HK.out.2.1).mono ?_; rintro e w2 ⟨rfl, h2, o2⟩)
          have b2 : Below w.heap.size w w2 := HI.out.2.2.2.1.trans (o2.below HQ.out.1 HI.out.2.2.2.1.size)
          have ow2 := own_only HI.out.2.1 o2 (by omega)
          have hck2 := o2.cell hck (by have h1 := HBW.out; have h2 := HQ.out; show b ≠ q; omega)
          go_wp2_with (at_builtin; refine wpList_append_bin rfl (.tmp 33) (.tmp 37) rfl (q + 1) A' N C' (catN L Z k) rfl ow2 ak lk ck zk rfl (HK.out.1.below b2) HK.out.2.2.1 (by omega) (by have := o2.size; have := HI.out.2.2.2.2.1; omega) ?_; intro A2 C2 u2 ow3 bu)
          have h3 : HIn u2 q (takeI st0 (catN L Z (k + 1))) := by
            rw [HK.out.2.2.2, takeI_append]; exact h2.below bu (by omega)
          have b3 : Below w.heap.size w u2 := b2.trans (bu.mono (by have := HQ.out; omega))
          have z3 : q + 1 ≤ u2.heap.size := by have := h3.1.lt; omega
          have f3 : ∀ z ∈ catN L Z (k + 1), Fits8 z := by
            rw [HK.out.2.2.2]; intro z hz
            rcases List.mem_append.1 hz with h | h
            · exact HI.out.2.2.2.2.2.1 z h
            · exact HK.out.1.2.2.1 z h
          have ow4 : u2.ownsRow (q + 1) 5 1 (.slice A2 (N + lk) C2) (N + lk) (u8s (catN L Z (k + 1))) := by rw [HK.out.2.2.2]; exact ow3
          go_roundw
          case rel => exact ⟨k + 1, A2, N + lk, C2, by omega, by go_num, rfl, by have := HI.out.1; omega, ow4, h3, b3, z3, f3⟩
          case measure => simp [intOf]; omega
      · have hge : (len0 : Int) ≤ k := by omega
        obtain ⟨Y, hY⟩ : ∃ Y, Y = catN L Z k := ⟨_, rfl⟩
        have HY : Hid (BIn wr A' N Y ∧ N ≤ C' ∧ HIn wr q (takeI st0 Y) ∧ Below w.heap.size w wr ∧ GIn wr ∧ (takeI st0 Y).T = N) := by
          rw [hY]
          refine ⟨own_bin HI.out.2.1 (by unfold maxLen; omega) HI.out.2.2.2.2.2.1, own_cap HI.out.2.1, HI.out.2.2.1, HI.out.2.2.2.1, H.out.1.below HI.out.2.2.2.1 H.out.1.lt, ?_⟩
          rw [takeI_T, HI.out.2.2.2.2.2.2]; show 0 + N = N; omega
        clear HI hY
        have hes := sum_same (takeI st0 Y)
        have N1 : (0 : Int) ≤ N := by omega
        go_wp2_with (first
          | (go_at_call 12; refine (digest_of wr q (takeI st0 Y) HY.out.2.2.1 HY.out.2.2.2.2.1.2 (by have := HQ.out; omega) (by rw [HY.out.2.2.2.2.2]; omega)).mono ?_; rintro e w3 ⟨rfl, b3⟩)
          | (go_at_call 8; refine (sum_of A' N C' Y w3 (HY.out.2.2.2.2.1.below b3 HY.out.2.2.2.2.1.lt) (HY.out.1.below b3) (by omega) HY.out.2.1).mono ?_; rintro e w4 ⟨rfl, b4⟩; have h4 := (HY.out.2.2.1.below b3 HY.out.2.2.1.1.lt).below b4 (by have := b3.size; have := HY.out.2.2.1.1.lt; omega))
          | (go_at_call 13; refine (len_of w4 q (takeI st0 Y) h4).mono ?_; rintro e w5 ⟨rfl, rfl⟩; rw [HY.out.2.2.2.2.2]))
        go_ret
        refine ⟨rfl, HY.out.2.2.2.1.trans ((b3.mono HY.out.2.2.2.1.size).trans (b4.mono ?_))⟩
        have h1 := b3.size
        have h2 := HY.out.2.2.2.1.size
        omega

set_option maxRecDepth 100000 in
theorem lifted (os : Os) (started : os.Started) (H : Type) (enc : TypeId × Value → H) :
    ReturnsInHanded {} Tryd.checked os 4 .any (fun w args => (Rows.shaPiecesSpec.pre enc Tryd.prog Tryd.f4 [] false w args ∧ laidMetH Tryd.prog laid2 w) ∧ sizedMet enc Tryd.prog Tryd.f4 (OpenSpec.ofChange Rows.shaPiecesSpec) false w args)
      (Rows.shaPiecesSpec.post enc Tryd.prog Tryd.f4 false true false false) := by
  refine returnsInHanded_of_change_and (C := Tryd.checked) (X := fun w _ => laidMetH Tryd.prog laid2 w) (fun _ _ _ hh h => h.of_heap hh) own started (by kernel_rfl) Tryd.func4
    (ChangeSpec.witness_shaped (enc := enc) (C := Tryd.checked) (os := os) (X := fun w _ => laidMetH Tryd.prog laid2 w) false (World.doorLaid Tryd.prog 400 os) #[.slice none 0 0] 8 rfl (World.shaped_of_RefB (by kernel_rfl) (by kernel_rfl)) (by kernel_rfl) (by kernel_rfl) (by kernel_rfl) (door_met os _)) ?_
  intro W base args ds gs before hval0 hW hcnd _ hL _
  have hval : ∀ (j : Nat) t v, Tryd.f4.params[j]? = some t → args[j]? = some v → Value.okWide Tryd.prog W .any base t v := hval0
  have hW' := hW
  obtain ⟨p, q, hA0, hV, rfl, hfz, hnd⟩ := hW
  have hA : DataW.TrodAll enc Tryd.prog W 0 (fun _ => true) true Tryd.f4.params.toList args.toList ds p := hA0
  rw [Tryd.params4] at hA hval
  obtain ⟨v0, vs0, d0, ds0, p0, q0, hargs, rfl, rfl, h0, r0⟩ := trodAll_cons hA
  obtain ⟨rfl, rfl, rfl⟩ := trodAll_nil r0
  obtain rfl : args = #[v0] := by cases args; simp_all
  obtain ⟨rfl, rfl⟩ := trodVars_none hV
  obtain ⟨a0, len0, cap0, rfl⟩ := okWide_slice Tryd.underlying28 (hval 0 28 v0 rfl rfl)
  have k0 := h0
  have lt0 : ∀ x ∈ p0, x.block < W.heap.size := by obtain ⟨m, hm⟩ := k0; exact DataW.trod_lt m _ _ _ hm
  obtain ⟨A, L, C, Z, w0⟩ : ∃ A L C Z, IsRows W a0 len0 cap0 A L C Z := by
    obtain ⟨fuel, hf⟩ := h0
    rcases Deep.open_int_rows Tryd.underlying28 Tryd.underlying22 Tryd.underlying5 (by kernel_rfl) (by kernel_rfl) hf with ⟨hcs, _⟩ | ⟨x, l, c, A, L, C, Z, hcs, _, hl, hm, _, hr⟩
    · simp [Value.cells] at hcs
      obtain ⟨rfl, rfl, rfl⟩ := hcs
      exact ⟨fun _ => none, fun _ => 0, fun _ => 0, fun _ => [], .inl ⟨rfl, rfl, rfl⟩⟩
    · simp [Value.cells] at hcs
      obtain ⟨rfl, rfl, rfl⟩ := hcs
      exact ⟨A, L, C, Z, .inr ⟨_, rfl, hl, hm, hr⟩⟩
  clear hA0 hval0
  refine (walk a0 len0 cap0 A L C Z W (of_laid hL) w0).mono fun e W' ⟨he, bel⟩ => ?_
  subst he
  exact ⟨_, rfl, _, _, _, [], _, [], hW', trodAll_mk1 (shut_bool Tryd.underlying4 _), (trodAll_cons_mk (Below.trod laidOut (by kernel_rfl) (of_decide_eq_true (by kernel_rfl)) k0 bel lt0) trodAll_mk0), rfl, bel.frame _, fun h => by cases h⟩

theorem over : Rows.shaPiecesRow.holds Tryd.pinned (OpenSpec.ofChange Rows.shaPiecesSpec) :=
  OpenClaim.holds_of_wide 4 Tryd.f4 rfl rfl rfl rfl rfl rfl rfl ⟨rfl, rfl, rfl, rfl, rfl⟩ rfl rfl rfl rfl rfl (by kernel_rfl) Tryd.func4 (by kernel_rfl)
    (of_decide_eq_true (by kernel_rfl)) (by unfold Func.isWrapper; first | (rw [if_pos (by decide +kernel)]; kernel_rfl) | (rw [if_neg (by decide +kernel)]; exact ⟨rfl, rfl⟩))
    (fun os started H enc _ => lifted os started H enc)

theorem said : Rows.ShaPiecesSaid := over
end Go.Proofs.YtjhbcknbbbbgkaaDoor.shaPieces
namespace Go.Proofs.YtjhbcknbbbbgkaaDoor
/-- The tied card. -/
theorem shaPieces_card : Rows.ShaPiecesCardSaid :=
  Claim7.holds_tied_plain_at .later [] [.data, .data] true (true, "4a458099d0066d3635fa7948cc792fe0ce29d52b8a17ca1574f688b5700ba112") false
    shaPieces.said (fun _ h => by cases h) (by kernel_rfl) (fun _ h => by cases h) shaPieces_row_tie rfl ⟨rfl, rfl⟩ (by kernel_rfl) rfl
    (fun f fn hf hfn => by
      obtain rfl : f = 4 := Option.some.inj ((show Tryd.prog.funcNamed "coaming/coaminglaw02.ShaPieces" = some 4 by kernel_rfl).symm.trans hf) |>.symm
      obtain rfl : fn = Tryd.f4 := (Option.some.inj (Tryd.func4.symm.trans hfn)).symm
      exact ⟨by kernel_rfl, fun j t ht => by
        rw [Tryd.params4] at ht
        have hm : t ∈ [28] := by simpa using Array.mem_of_getElem? ht
        have hall : ([28].all fun u => !Tryd.prog.wantsStandIn u) = true := by kernel_rfl
        exact (show Tryd.prog.wantsStandIn t = false by simpa using List.all_eq_true.1 hall t hm)⟩)
    (by kernel_rfl)
#print axioms shaPieces_card
end Go.Proofs.YtjhbcknbbbbgkaaDoor
