/- What is left is new memory, and numbers that are taken one by one are those that are taken at once: for every list of bytes and every list of widths the law answers true (of more than 2400 bytes or 300 widths it says nothing but that known answers true). -/
import Derived.Test.YtckigbmlpmpmkaaRows
import Derived.Test.YtckigbmlpmpmkaaWOwnT
import Derived.WalkKit
import Derived.ProofKit
import Derived.OpenShut
import Derived.ShutString
import Derived.ChangeOld
import Derived.Below
namespace Go.Proofs.Ytckigbmlpmpmkaa.wireOwn
open Go.ChangeShapes Go.WideShapes Go.ChangeAt Go.RowKit
open Go.ChangeMaps (open_string shut_string)
set_option linter.unusedVariables false

theorem own : ownKnob Try.prog.godebug = none := by kernel_rfl
theorem laidOut : laidOutB Try.prog = true := by kernel_rfl

/-- WHAT THE WALK IS TOLD OF A SLICE OF INTEGERS THAT CAME IN: it is nil; or it leads to a row of 'cap' cells, the numbers 'zs' (the first 'len' are its elements, the rest its spare room), each fitting its kind. -/
def IsRow (k : IntKind) (w : World) (a : Option Addr) (len cap : Nat) (zs : List Int) : Prop :=
  (a = none ∧ len = 0 ∧ cap = 0 ∧ zs = []) ∨
  ∃ x, a = some x ∧ len ≤ cap ∧ cap ≤ maxLen ∧ zs.length = cap ∧ (∀ i, i < zs.length → w.cell? (x.add i) = some (.int k (zs.getD i 0))) ∧ ∀ n ∈ zs, (Lit.int k n).wf = true

set_option maxHeartbeats 2000000 in
theorem walk (a0 : Option Addr) (len0 cap0 : Nat) (z0 : List Int) (a1 : Option Addr) (len1 cap1 : Nat) (z1 : List Int) (w : World) (w0 : IsRow .u8 w a0 len0 cap0 z0) (w1 : IsRow .i64 w a1 len1 cap1 z1) :
    Calls Try.prog 6 #[.slice a0 len0 cap0, .slice a1 len1 cap1] w fun e w' => e = .returned (.bool true) ∧ Below w.heap.size w w' := by
  obtain ⟨hx, hxc, hxn⟩ := row_nin w0
  obtain ⟨hy, _, _⟩ := row_nin w1
  obtain ⟨X, eX⟩ : ∃ X, X = z0.take len0 := ⟨_, rfl⟩
  obtain ⟨V, eV⟩ : ∃ V, V = z1.take len1 := ⟨_, rfl⟩
  rw [← eX] at hx
  rw [← eV] at hy
  obtain ⟨q, hq⟩ : ∃ q, q = w.heap.size := ⟨_, rfl⟩
  have H : Hid (BIn w a0 len0 X ∧ NIn .i64 w a1 len1 V ∧ len0 ≤ cap0 ∧ (a0 = none → len0 = 0 ∧ cap0 = 0) ∧ q = w.heap.size) := ⟨hx.b, hy, hxc, hxn, hq⟩
  rw [← hq]
  clear hx hy eX eV w0 w1 hxc hxn hq
  by_cases h1 : (2400 : Int) < len0
  · go_enter Try.func6, Try.ntmps6
    go_wp2_with (go_at_call 8; refine (wknown_any _).mono ?_; rintro e W ⟨rfl, b⟩)
    go_ret
    exact ⟨rfl, by rw [H.out.2.2.2.2]; exact b⟩
  have d1 : decide (2400 < len0) = false := decide_eq_false (by omega)
  by_cases h2 : (300 : Int) < len1
  · go_enter Try.func6, Try.ntmps6
    go_wp2_with (go_at_call 8; refine (wknown_any _).mono ?_; rintro e W ⟨rfl, b⟩)
    go_ret
    exact ⟨rfl, by rw [H.out.2.2.2.2]; exact b⟩
  have d2 : decide (300 < len1) = false := decide_eq_false (by omega)
  have n1 : len0 ≤ 2400 := by omega
  have n2 : len1 ≤ 300 := by omega
  have HN : Hid (len0 ≤ 2400 ∧ len1 ≤ 300) := ⟨n1, n2⟩
  go_enter Try.func6, Try.ntmps6
  go_wp2_with fail
  refine (wknown_any _).mono ?_
  rintro e w1 ⟨rfl, b1⟩
  rw [← H.out.2.2.2.2] at b1
  have B1 : Hid (Below q w w1 ∧ q ≤ w1.heap.size) := ⟨b1, by rw [H.out.2.2.2.2]; exact b1.size⟩
  clear b1
  go_wp2_with fail
  refine (take_of a0 len0 cap0 X a1 len1 cap1 V w1 (H.out.1.below (by rw [← H.out.2.2.2.2]; exact B1.out.1)) H.out.2.2.2.1 H.out.2.2.1 (H.out.2.1.below (by rw [← H.out.2.2.2.2]; exact B1.out.1)) (by have := HN.out; omega) (by have := HN.out; omega)).mono ?_
  rintro e w2 ⟨A2, k2, C2, R2, r2, D2, rfl, ow2, or2, b2⟩
  obtain ⟨F, hF⟩ : ∃ F, F = decide (offL V ≤ X.length) := ⟨_, rfl⟩
  rw [← hF]
  have B2 : Hid (w2.ownsRow q 37 1 (.slice A2 k2 C2) k2 (kInts .u64 (takeV X V)) ∧ w2.ownsRow q 5 1 (.slice R2 r2 D2) r2 (u8s (takeR X V)) ∧ Below q w w2 ∧ q ≤ w2.heap.size ∧ k2 ≤ 300 ∧ r2 ≤ 2400 ∧ F = decide (offL V ≤ X.length)) := by
    refine ⟨own_lowerN ow2 B1.out.2, own_lowerN or2 B1.out.2, B1.out.1.trans (b2.mono B1.out.2), Nat.le_trans B1.out.2 b2.size, ?_, ?_, hF⟩
    · have := ow2.1; have := takeV_len X V; have := H.out.2.1.1; have := HN.out; rw [kInts_length] at *; omega
    · have := or2.1; have := takeR_len X V; have := H.out.1.1; have := HN.out; rw [u8s_length] at *; omega
  clear ow2 or2 b2 hF
  go_wp2_with fail
  refine (lentBytes_of a0 len0 cap0 X w2 (H.out.1.below (by rw [← H.out.2.2.2.2]; exact B2.out.2.2.1)) H.out.2.2.2.1 (by have := HN.out; omega)).mono ?_
  rintro e w3 ⟨A3, C3, rfl, ow3, b3⟩
  obtain ⟨p, hp⟩ : ∃ p, p = w3.heap.size := ⟨_, rfl⟩
  have B3 : Hid (w3.ownsRow q 5 1 (.slice A3 len0 C3) len0 (kInts .u8 X) ∧ Below w2.heap.size w2 w3 ∧ Below q w w3 ∧ p = w3.heap.size ∧ q ≤ p) :=
    ⟨own_lowerN ow3 B2.out.2.2.2.1, b3, B2.out.2.2.1.trans (b3.mono B2.out.2.2.2.1), hp, by rw [hp]; exact Nat.le_trans B2.out.2.2.2.1 b3.size⟩
  clear ow3 b3 hp
  go_wp2
  go_loopw [8, 9, 10, 11] (fun s l f i wr => ∃ (j : Nat) (A : Option Addr) (n C : Nat) (vs : List Int) (L : Option Addr) (m c : Nat) (ys : List Int), j ≤ len1 ∧ i = .int .i64 j ∧ f = .bool (decide (offL (V.take j) ≤ X.length)) ∧ s = .slice A n C ∧ l = .slice L m c ∧ n ≤ j ∧ m ≤ 2400 ∧ wr.ownsRow p 37 1 (.slice A n C) n (kInts .u64 vs) ∧ wr.ownsRow q 5 1 (.slice L m c) m (kInts .u8 ys) ∧ (∀ z ∈ ys, Fits8 z) ∧ (∀ z ∈ vs, FitsU z) ∧ (offL (V.take j) ≤ X.length → vs = valL X (V.take j) ∧ ys = X.drop (offL (V.take j))) ∧ Below p w3 wr)
    (fun _ _ _ i _ => len1 - (intOf i).toNat)
  case atStart =>
    refine ⟨0, none, 0, 0, [], A3, len0, C3, X, by omega, rfl, by simp [offL], rfl, rfl, by omega, by have := HN.out; omega, World.ownsRow_nil _ _ _ _, B3.out.1, H.out.1.2.2.1, by simp, fun _ => ⟨rfl, rfl⟩, Below.refl _ _⟩
  case round =>
    obtain ⟨j, A, n, C, vs, L, m, c, ys, hj, rfl, rfl, rfl, rfl, hnj, hm24, ow, ol, hyf, hvf, hinv, bl⟩ := hrel
    have hps : p ≤ wr.heap.size := by have := bl.size; rw [← B3.out.2.2.2.1] at this; exact this
    have hbw : Below q w wr := B3.out.2.2.1.trans (bl.mono B3.out.2.2.2.2)
    by_cases hgo : j < len1 ∧ offL (V.take j) ≤ X.length
    · obtain ⟨hlt, hok⟩ := hgo
      obtain ⟨rfl, rfl⟩ := hinv hok
      rw [decide_eq_true hok]
      have hlt' : (j : Int) < len1 := by omega
      obtain ⟨b1, o1, rfl, hc1⟩ := H.out.2.1.2.2.2.resolve_left (by omega)
      have cw : wr.cell? ⟨b1, o1 + j, none⟩ = some (.int .i64 (V.getD j 0)) := by rw [hbw.cell (by rw [H.out.2.2.2.2]; exact old_block (hc1 j (by omega)))]; exact hc1 j (by omega)
      have hnx := take_next V (i := j) (by rw [H.out.2.1.1]; omega)
      have hxw := num_fits H.out.2.1.2.2.1 j (by rw [H.out.2.1.1]; omega)
      clear hc1
      obtain ⟨x, eX⟩ : ∃ x, x = V.getD j 0 := ⟨_, rfl⟩
      rw [← eX] at cw hnx hxw
      have hom := one_more X V hnx hok
      obtain ⟨ys, hys⟩ : ∃ ys, ys = X.drop (offL (V.take j)) := ⟨_, rfl⟩
      obtain ⟨vs, hvs⟩ : ∃ vs, vs = valL X (V.take j) := ⟨_, rfl⟩
      rw [← hys] at ol hyf hom
      rw [← hvs] at ow hvf hom
      have HR : Hid (wr.ownsRow p 37 1 (.slice A n C) n (kInts .u64 vs) ∧ wr.ownsRow q 5 1 (.slice L m c) m (kInts .u8 ys) ∧ (∀ z ∈ ys, Fits8 z) ∧ (∀ z ∈ vs, FitsU z) ∧ p ≤ wr.heap.size ∧ Below p w3 wr ∧ Below q w wr) := ⟨ow, ol, hyf, hvf, hps, bl, hbw⟩
      have HO : Hid ((offL [x] ≤ ys.length ↔ offL (V.take (j + 1)) ≤ X.length) ∧ (offL (V.take (j + 1)) ≤ X.length → vs ++ takeV ys [x] = valL X (V.take (j + 1)) ∧ takeR ys [x] = X.drop (offL (V.take (j + 1)))) ∧ (Lit.int .i64 x).wf = true) := ⟨hom.1, hom.2, hxw⟩
      clear eX hnx hom hys hvs ow ol hyf hvf hps bl hbw hxw hok hinv
      have hcut : ∀ o, BIn (wr.alloc o) L m ys := fun o => own_bin (HR.out.2.1.alloc o) (by unfold maxLen; omega) HR.out.2.2.1
      go_wp2_with fail
      refine (take_of L m c ys (some ⟨wr.heap.size, 0, none⟩) 1 1 [x] _ (hcut _) (own_nilN HR.out.2.1) (own_capN HR.out.2.1) (new_nin rfl rfl rfl (by intro z hz; simp only [List.mem_cons, List.not_mem_nil, or_false] at hz; subst hz; exact HO.out.2.2) (by unfold maxLen; decide)) (by omega) (by omega)).mono ?_
      have hdec : decide (offL [x] ≤ ys.length) = decide (offL (V.take (j + 1)) ≤ X.length) := decide_eq_decide.2 HO.out.1
      rw [hdec]
      obtain ⟨G, hG⟩ : ∃ G, G = decide (offL (V.take (j + 1)) ≤ X.length) := ⟨_, rfl⟩
      rw [← hG]
      have HG : Hid (G = decide (offL (V.take (j + 1)) ≤ X.length)) := hG
      clear hG hdec
      rintro e w5 ⟨A5, k5, C5, R5, r5, D5, rfl, ow5, or5, b5⟩
      have hk5 : k5 ≤ 1 := by have h1 := ow5.1; have h2 := takeV_len ys [x]; rw [kInts_length] at h1; simp at h2; omega
      have hr5 : r5 ≤ 2400 := by
        have h1 := or5.1
        have h2 := takeR_len ys [x]
        have h3 := HR.out.2.1.1
        rw [kInts_length] at h3
        rw [u8s_length] at h1
        omega
      have B5 : Hid (w5.ownsRow p 37 1 (.slice A n C) n (kInts .u64 vs) ∧ w5.ownsRow q 5 1 (.slice R5 r5 D5) r5 (kInts .u8 (takeR ys [x])) ∧ NIn .u64 w5 A5 k5 (takeV ys [x]) ∧ (A5 = none → k5 = 0 ∧ C5 = 0) ∧ p ≤ w5.heap.size ∧ Below p w3 w5) := by
        have hs : wr.heap.size ≤ w5.heap.size := by have := b5.size; simp at this; omega
        refine ⟨own_belowN (HR.out.1.alloc _) b5 (Nat.le_refl _), own_lowerN or5 (by have h1 := HR.out.2.2.2.2.1; have h2 := B3.out.2.2.2.2; simp; omega), own_nin ow5 (by unfold maxLen; omega) (takeV_wf ys [x] HR.out.2.2.1), own_nilN ow5, Nat.le_trans HR.out.2.2.2.2.1 hs, (HR.out.2.2.2.2.2.1.alloc HR.out.2.2.2.2.1 _).trans (b5.mono (by have h1 := HR.out.2.2.2.2.1; simp; omega))⟩
      clear ow5 or5 b5
      go_wp2_with (at_builtin; refine wpList_append_kept (k := .u64) (size := 8) Try.underlying23 Try.zero_u64 (by decide) rfl (.tmp 60) (.tmp 61) rfl p A n C vs rfl B5.out.1 A5 k5 C5 (takeV ys [x]) rfl B5.out.2.2.1 B5.out.2.2.2.1 (by omega) B5.out.2.2.2.2.1 ?_; intro A6 C6 w6 ow6 bl6 gr6)
      go_roundw
      case rel =>
        refine ⟨j + 1, A6, n + k5, C6, vs ++ takeV ys [x], R5, r5, D5, takeR ys [x], by omega, by go_num, by rw [HG.out], by rfl, by rfl, by omega, hr5, ow6, World.ownsRow.kept B5.out.2.1 gr6 (own_apart B5.out.2.1 B5.out.1 (by decide)), takeR_fits ys [x] HR.out.2.2.1, ?_, HO.out.2.1, B5.out.2.2.2.2.2.trans bl6⟩
        intro z hz
        rcases List.mem_append.1 hz with hz | hz
        · exact HR.out.2.2.2.1 z hz
        · exact takeV_fits ys [x] HR.out.2.2.1 z hz
      case measure => simp [intOf] <;> omega
    · have hFF : decide (offL (V.take j) ≤ X.length) = F := by
        rw [B2.out.2.2.2.2.2.2]
        by_cases hok : offL (V.take j) ≤ X.length
        · have : V.take j = V := List.take_of_length_le (by rw [H.out.2.1.1]; omega)
          rw [this]
        · rw [decide_eq_false hok, decide_eq_false (by have := offL_take V j; omega)]
      rw [hFF]
      have hfin : F = true → vs = valL X V ∧ takeV X V = valL X V := by
        intro hT
        rw [hT] at hFF
        have hok : offL (V.take j) ≤ X.length := of_decide_eq_true hFF
        have hjl : V.take j = V := List.take_of_length_le (by rw [H.out.2.1.1]; omega)
        have h1 := (hinv hok).1
        rw [hjl] at h1 hok
        exact ⟨h1, by unfold takeV; rw [if_pos hok]⟩
      have HX : Hid (Below w.heap.size w wr ∧ wr.ownsRow q 37 1 (.slice A2 k2 C2) k2 (kInts .u64 (takeV X V)) ∧ wr.ownsRow q 5 1 (.slice R2 r2 D2) r2 (kInts .u8 (takeR X V)) ∧ wr.ownsRow p 37 1 (.slice A n C) n (kInts .u64 vs) ∧ Below q w wr ∧ q ≤ wr.heap.size ∧ (∀ z ∈ vs, FitsU z) ∧ (F = true → vs = valL X V ∧ takeV X V = valL X V)) := by
        refine ⟨by rw [← H.out.2.2.2.2]; exact hbw, ?_, ?_, ow, hbw, Nat.le_trans B3.out.2.2.2.2 hps, hvf, hfin⟩
        · exact own_belowN (own_belowN B2.out.1 B3.out.2.1 (Nat.le_refl _)) bl (by rw [B3.out.2.2.2.1]; exact Nat.le_refl _)
        · exact own_belowN (own_belowN B2.out.2.1 B3.out.2.1 (Nat.le_refl _)) bl (by rw [B3.out.2.2.2.1]; exact Nat.le_refl _)
      have hend : j < len1 → F = false := by
        intro hl
        cases hF : F with
        | false => rfl
        | true =>
          rw [hF] at hFF
          exact absurd ⟨hl, of_decide_eq_true hFF⟩ hgo
      clear hFF hfin ow ol bl hbw hps hvf hyf hinv hgo
      cases F with
      | true =>
        have HV : Hid (vs = valL X V ∧ takeV X V = valL X V) := HX.out.2.2.2.2.2.2.2 rfl
        have hge : (len1 : Int) ≤ j := by
          rcases Nat.lt_or_ge j len1 with h | h
          · cases hend h
          · omega
        clear hend
        go_wp2_with fail
        refine (lentBytes_of a0 len0 cap0 X wr (H.out.1.below HX.out.1) H.out.2.2.2.1 (by have := HN.out; omega)).mono ?_
        rintro e w7 ⟨A7, C7, rfl, ow7, b7⟩
        have E7 : Hid (w7.ownsRow q 37 1 (.slice A2 k2 C2) k2 (kInts .u64 (takeV X V)) ∧ w7.ownsRow p 37 1 (.slice A n C) n (kInts .u64 vs) ∧ w7.ownsRow wr.heap.size 5 1 (.slice A7 len0 C7) len0 (kInts .u8 X) ∧ Below q w w7 ∧ q ≤ w7.heap.size) := by
          refine ⟨own_belowN HX.out.2.1 b7 (Nat.le_refl _), own_belowN HX.out.2.2.2.1 b7 (Nat.le_refl _), ow7, HX.out.2.2.2.2.1.trans (b7.mono HX.out.2.2.2.2.2.1), Nat.le_trans HX.out.2.2.2.2.2.1 b7.size⟩
        have r7 : w7.ownsRow q 5 1 (.slice R2 r2 D2) r2 (kInts .u8 (takeR X V)) := own_belowN HX.out.2.2.1 b7 (Nat.le_refl _)
        have E8 : Hid (w7.ownsRow q 5 1 (.slice R2 r2 D2) r2 (kInts .u8 (takeR X V)) ∧ r2 ≤ 2400 ∧ ((Value.slice A7 len0 C7).ownBlock = none ∨ (Value.slice A7 len0 C7).ownBlock ≠ (Value.slice R2 r2 D2).ownBlock)) := ⟨r7, B2.out.2.2.2.2.2.1, own_later ow7 HX.out.2.2.1 (Nat.le_refl _)⟩
        clear ow7 b7 r7
        have hr24 : r2 ≤ 2400 := E8.out.2.1
        obtain ⟨wk, rfl⟩ : ∃ wk, wk = wr := ⟨_, rfl⟩
        go_wp2
        go_loopw [16] (fun i wq => ∃ (t : Nat) (zs : List Int), t ≤ r2 ∧ i = .int .i64 t ∧ wq.ownsRow q 5 1 (.slice R2 r2 D2) r2 (kInts .u8 zs) ∧ w7.grownBy wq (Value.slice R2 r2 D2).ownBlock)
          (fun i _ => r2 - (intOf i).toNat)
        case atStart => exact ⟨0, _, by omega, rfl, E8.out.1, grownBy_refl _ _⟩
        case round =>
          obtain ⟨t, zs, ht, rfl, ot, gr⟩ := hrel
          by_cases htr : t < r2
          · have htr' : (t : Int) < r2 := by omega
            obtain ⟨g, rfl⟩ : ∃ g, R2 = some ⟨g, 0, none⟩ := by
              rcases ot.2 with ⟨hv, h0⟩ | ⟨g, cap, cur, hv, _⟩
              · omega
              · cases hv; exact ⟨g, rfl⟩
            have hzl : zs.length = r2 := by have h := ot.1; rw [kInts_length] at h; omega
            have ct : wr.cell? ⟨g, 0 + t, none⟩ = some (.int .u8 (zs.getD t 0)) := by
              rw [Nat.zero_add, ot.cellAt t (by omega)]
              simp [kInts, List.getD, hzl, htr]
            have ft : wr.frozen? ⟨g, 0 + t, none⟩ = false := by rw [Nat.zero_add]; exact ot.frozenAt t
            rw [Nat.zero_add] at ct ft
            have HS : Hid (∀ u, (wr.setCell ⟨g, t, none⟩ (.int .u8 u)).ownsRow q 5 1 (.slice (some ⟨g, 0, none⟩) r2 D2) r2 (kInts .u8 (zs.set t u)) ∧ w7.grownBy (wr.setCell ⟨g, t, none⟩ (.int .u8 u)) (Value.slice (some ⟨g, 0, none⟩) r2 D2).ownBlock) := fun u => by
              obtain ⟨h1, h2⟩ := ot.stored t (.int .u8 u)
              refine ⟨?_, grownBy_trans gr h2⟩
              have e : (kInts .u8 zs).set t (.int .u8 u) = kInts .u8 (zs.set t u) := by simp [kInts]
              rw [← e]; exact h1
            clear ot gr hzl
            obtain ⟨y, ey⟩ : ∃ y, y = zs.getD t 0 := ⟨_, rfl⟩
            rw [← ey] at ct
            clear ey
            go_wp2
            go_roundw
            case rel => exact ⟨t + 1, _, by omega, by go_num, (HS.out _).1, (HS.out _).2⟩
            case measure => simp [intOf] <;> omega
          · have hge : (r2 : Int) ≤ t := by omega
            obtain ⟨w9, rfl⟩ : ∃ w9, w9 = wr := ⟨_, rfl⟩
            have hb9 : Below q w w9 := E7.out.2.2.2.1.grown gr E7.out.2.2.2.2 (fun k hk => (E8.out.1.lt k hk).1)
            have E9 : Hid (BIn w9 a0 len0 X ∧ BIn w9 A7 len0 X ∧ (NIn .u64 w9 A2 k2 (valL X V) ∧ NIn .u64 w9 A n (valL X V)) ∧ Below q w w9) := by
              refine ⟨H.out.1.below (by rw [← H.out.2.2.2.2]; exact hb9), (own_nin (World.ownsRow.kept E7.out.2.2.1 gr E8.out.2.2) (by have := HN.out; unfold maxLen; omega) (fun z hz => wf8 (H.out.1.2.2.1 z hz))).b, ⟨own_nin (zs := valL X V) (by have h := World.ownsRow.kept E7.out.1 gr (own_apart E7.out.1 E8.out.1 (by decide)); rw [HV.out.2] at h; exact h) (by have := B2.out.2.2.2.2.1; unfold maxLen; omega) (by have h := HX.out.2.2.2.2.2.2.1; rw [HV.out.1] at h; exact fun z hz => wfU (h z hz)), own_nin (zs := valL X V) (by have h := World.ownsRow.kept E7.out.2.1 gr (own_apart E7.out.2.1 E8.out.1 (by decide)); rw [HV.out.1] at h; exact h) (by unfold maxLen; omega) (by have h := HX.out.2.2.2.2.2.2.1; rw [HV.out.1] at h; exact fun z hz => wfU (h z hz))⟩, hb9⟩
            have E9 : Hid (BIn w9 a0 len0 X ∧ BIn w9 A7 len0 X ∧ NIn .u64 w9 A2 k2 (valL X V) ∧ NIn .u64 w9 A n (valL X V) ∧ Below q w w9) := ⟨E9.out.1, E9.out.2.1, E9.out.2.2.1.1, E9.out.2.2.1.2, E9.out.2.2.2⟩
            clear ot gr hb9
            go_wp2_with fail
            refine (sameBytes_of a0 len0 cap0 X A7 len0 C7 X w9 E9.out.1 E9.out.2.1 rfl).mono ?_
            rintro e w9 ⟨rfl, rfl⟩
            go_wp2_with fail
            refine (sameNumbers_of A2 k2 C2 (valL X V) A n C (valL X V) w9 E9.out.2.2.1 E9.out.2.2.2.1 rfl (by have := B2.out.2.2.2.2.1; omega)).mono ?_
            rintro e w10 ⟨rfl, ⟨kd, rfl⟩⟩
            go_wp2
            go_ret
            exact ⟨rfl, below_drewN E9.out.2.2.2.2 kd⟩
      | false =>
        clear hend
        by_cases hlt : j < len1
        · have hlt' : (j : Int) < len1 := by omega
          go_wp2_with fail
          refine (lentBytes_of a0 len0 cap0 X wr (H.out.1.below HX.out.1) H.out.2.2.2.1 (by have := HN.out; omega)).mono ?_
          rintro e w7 ⟨A7, C7, rfl, ow7, b7⟩
          have E7 : Hid (w7.ownsRow q 37 1 (.slice A2 k2 C2) k2 (kInts .u64 (takeV X V)) ∧ w7.ownsRow p 37 1 (.slice A n C) n (kInts .u64 vs) ∧ w7.ownsRow wr.heap.size 5 1 (.slice A7 len0 C7) len0 (kInts .u8 X) ∧ Below q w w7 ∧ q ≤ w7.heap.size) := by
            refine ⟨own_belowN HX.out.2.1 b7 (Nat.le_refl _), own_belowN HX.out.2.2.2.1 b7 (Nat.le_refl _), ow7, HX.out.2.2.2.2.1.trans (b7.mono HX.out.2.2.2.2.2.1), Nat.le_trans HX.out.2.2.2.2.2.1 b7.size⟩
          have r7 : w7.ownsRow q 5 1 (.slice R2 r2 D2) r2 (kInts .u8 (takeR X V)) := own_belowN HX.out.2.2.1 b7 (Nat.le_refl _)
          have E8 : Hid (w7.ownsRow q 5 1 (.slice R2 r2 D2) r2 (kInts .u8 (takeR X V)) ∧ r2 ≤ 2400 ∧ ((Value.slice A7 len0 C7).ownBlock = none ∨ (Value.slice A7 len0 C7).ownBlock ≠ (Value.slice R2 r2 D2).ownBlock)) := ⟨r7, B2.out.2.2.2.2.2.1, own_later ow7 HX.out.2.2.1 (Nat.le_refl _)⟩
          clear ow7 b7 r7
          have hr24 : r2 ≤ 2400 := E8.out.2.1
          obtain ⟨wk, rfl⟩ : ∃ wk, wk = wr := ⟨_, rfl⟩
          go_wp2
          go_loopw [16] (fun i wq => ∃ (t : Nat) (zs : List Int), t ≤ r2 ∧ i = .int .i64 t ∧ wq.ownsRow q 5 1 (.slice R2 r2 D2) r2 (kInts .u8 zs) ∧ w7.grownBy wq (Value.slice R2 r2 D2).ownBlock)
            (fun i _ => r2 - (intOf i).toNat)
          case atStart => exact ⟨0, _, by omega, rfl, E8.out.1, grownBy_refl _ _⟩
          case round =>
            obtain ⟨t, zs, ht, rfl, ot, gr⟩ := hrel
            by_cases htr : t < r2
            · have htr' : (t : Int) < r2 := by omega
              obtain ⟨g, rfl⟩ : ∃ g, R2 = some ⟨g, 0, none⟩ := by
                rcases ot.2 with ⟨hv, h0⟩ | ⟨g, cap, cur, hv, _⟩
                · omega
                · cases hv; exact ⟨g, rfl⟩
              have hzl : zs.length = r2 := by have h := ot.1; rw [kInts_length] at h; omega
              have ct : wr.cell? ⟨g, 0 + t, none⟩ = some (.int .u8 (zs.getD t 0)) := by
                rw [Nat.zero_add, ot.cellAt t (by omega)]
                simp [kInts, List.getD, hzl, htr]
              have ft : wr.frozen? ⟨g, 0 + t, none⟩ = false := by rw [Nat.zero_add]; exact ot.frozenAt t
              rw [Nat.zero_add] at ct ft
              have HS : Hid (∀ u, (wr.setCell ⟨g, t, none⟩ (.int .u8 u)).ownsRow q 5 1 (.slice (some ⟨g, 0, none⟩) r2 D2) r2 (kInts .u8 (zs.set t u)) ∧ w7.grownBy (wr.setCell ⟨g, t, none⟩ (.int .u8 u)) (Value.slice (some ⟨g, 0, none⟩) r2 D2).ownBlock) := fun u => by
                obtain ⟨h1, h2⟩ := ot.stored t (.int .u8 u)
                refine ⟨?_, grownBy_trans gr h2⟩
                have e : (kInts .u8 zs).set t (.int .u8 u) = kInts .u8 (zs.set t u) := by simp [kInts]
                rw [← e]; exact h1
              clear ot gr hzl
              obtain ⟨y, ey⟩ : ∃ y, y = zs.getD t 0 := ⟨_, rfl⟩
              rw [← ey] at ct
              clear ey
              go_wp2
              go_roundw
              case rel => exact ⟨t + 1, _, by omega, by go_num, (HS.out _).1, (HS.out _).2⟩
              case measure => simp [intOf] <;> omega
            · have hge : (r2 : Int) ≤ t := by omega
              obtain ⟨w9, rfl⟩ : ∃ w9, w9 = wr := ⟨_, rfl⟩
              have hb9 : Below q w w9 := E7.out.2.2.2.1.grown gr E7.out.2.2.2.2 (fun k hk => (E8.out.1.lt k hk).1)
              have E9 : Hid (BIn w9 a0 len0 X ∧ BIn w9 A7 len0 X ∧ (True ∧ True) ∧ Below q w w9) := by
                refine ⟨H.out.1.below (by rw [← H.out.2.2.2.2]; exact hb9), (own_nin (World.ownsRow.kept E7.out.2.2.1 gr E8.out.2.2) (by have := HN.out; unfold maxLen; omega) (fun z hz => wf8 (H.out.1.2.2.1 z hz))).b, ⟨trivial, trivial⟩, hb9⟩
              have E9 : Hid (BIn w9 a0 len0 X ∧ BIn w9 A7 len0 X ∧ True ∧ True ∧ Below q w w9) := ⟨E9.out.1, E9.out.2.1, E9.out.2.2.1.1, E9.out.2.2.1.2, E9.out.2.2.2⟩
              clear ot gr hb9
              go_wp2_with fail
              refine (sameBytes_of a0 len0 cap0 X A7 len0 C7 X w9 E9.out.1 E9.out.2.1 rfl).mono ?_
              rintro e w9 ⟨rfl, rfl⟩
              go_wp2
              go_ret
              exact ⟨rfl, E9.out.2.2.2.2⟩
        · have hge : (len1 : Int) ≤ j := by omega
          go_wp2_with fail
          refine (lentBytes_of a0 len0 cap0 X wr (H.out.1.below HX.out.1) H.out.2.2.2.1 (by have := HN.out; omega)).mono ?_
          rintro e w7 ⟨A7, C7, rfl, ow7, b7⟩
          have E7 : Hid (w7.ownsRow q 37 1 (.slice A2 k2 C2) k2 (kInts .u64 (takeV X V)) ∧ w7.ownsRow p 37 1 (.slice A n C) n (kInts .u64 vs) ∧ w7.ownsRow wr.heap.size 5 1 (.slice A7 len0 C7) len0 (kInts .u8 X) ∧ Below q w w7 ∧ q ≤ w7.heap.size) := by
            refine ⟨own_belowN HX.out.2.1 b7 (Nat.le_refl _), own_belowN HX.out.2.2.2.1 b7 (Nat.le_refl _), ow7, HX.out.2.2.2.2.1.trans (b7.mono HX.out.2.2.2.2.2.1), Nat.le_trans HX.out.2.2.2.2.2.1 b7.size⟩
          have r7 : w7.ownsRow q 5 1 (.slice R2 r2 D2) r2 (kInts .u8 (takeR X V)) := own_belowN HX.out.2.2.1 b7 (Nat.le_refl _)
          have E8 : Hid (w7.ownsRow q 5 1 (.slice R2 r2 D2) r2 (kInts .u8 (takeR X V)) ∧ r2 ≤ 2400 ∧ ((Value.slice A7 len0 C7).ownBlock = none ∨ (Value.slice A7 len0 C7).ownBlock ≠ (Value.slice R2 r2 D2).ownBlock)) := ⟨r7, B2.out.2.2.2.2.2.1, own_later ow7 HX.out.2.2.1 (Nat.le_refl _)⟩
          clear ow7 b7 r7
          have hr24 : r2 ≤ 2400 := E8.out.2.1
          obtain ⟨wk, rfl⟩ : ∃ wk, wk = wr := ⟨_, rfl⟩
          go_wp2
          go_loopw [16] (fun i wq => ∃ (t : Nat) (zs : List Int), t ≤ r2 ∧ i = .int .i64 t ∧ wq.ownsRow q 5 1 (.slice R2 r2 D2) r2 (kInts .u8 zs) ∧ w7.grownBy wq (Value.slice R2 r2 D2).ownBlock)
            (fun i _ => r2 - (intOf i).toNat)
          case atStart => exact ⟨0, _, by omega, rfl, E8.out.1, grownBy_refl _ _⟩
          case round =>
            obtain ⟨t, zs, ht, rfl, ot, gr⟩ := hrel
            by_cases htr : t < r2
            · have htr' : (t : Int) < r2 := by omega
              obtain ⟨g, rfl⟩ : ∃ g, R2 = some ⟨g, 0, none⟩ := by
                rcases ot.2 with ⟨hv, h0⟩ | ⟨g, cap, cur, hv, _⟩
                · omega
                · cases hv; exact ⟨g, rfl⟩
              have hzl : zs.length = r2 := by have h := ot.1; rw [kInts_length] at h; omega
              have ct : wr.cell? ⟨g, 0 + t, none⟩ = some (.int .u8 (zs.getD t 0)) := by
                rw [Nat.zero_add, ot.cellAt t (by omega)]
                simp [kInts, List.getD, hzl, htr]
              have ft : wr.frozen? ⟨g, 0 + t, none⟩ = false := by rw [Nat.zero_add]; exact ot.frozenAt t
              rw [Nat.zero_add] at ct ft
              have HS : Hid (∀ u, (wr.setCell ⟨g, t, none⟩ (.int .u8 u)).ownsRow q 5 1 (.slice (some ⟨g, 0, none⟩) r2 D2) r2 (kInts .u8 (zs.set t u)) ∧ w7.grownBy (wr.setCell ⟨g, t, none⟩ (.int .u8 u)) (Value.slice (some ⟨g, 0, none⟩) r2 D2).ownBlock) := fun u => by
                obtain ⟨h1, h2⟩ := ot.stored t (.int .u8 u)
                refine ⟨?_, grownBy_trans gr h2⟩
                have e : (kInts .u8 zs).set t (.int .u8 u) = kInts .u8 (zs.set t u) := by simp [kInts]
                rw [← e]; exact h1
              clear ot gr hzl
              obtain ⟨y, ey⟩ : ∃ y, y = zs.getD t 0 := ⟨_, rfl⟩
              rw [← ey] at ct
              clear ey
              go_wp2
              go_roundw
              case rel => exact ⟨t + 1, _, by omega, by go_num, (HS.out _).1, (HS.out _).2⟩
              case measure => simp [intOf] <;> omega
            · have hge : (r2 : Int) ≤ t := by omega
              obtain ⟨w9, rfl⟩ : ∃ w9, w9 = wr := ⟨_, rfl⟩
              have hb9 : Below q w w9 := E7.out.2.2.2.1.grown gr E7.out.2.2.2.2 (fun k hk => (E8.out.1.lt k hk).1)
              have E9 : Hid (BIn w9 a0 len0 X ∧ BIn w9 A7 len0 X ∧ (True ∧ True) ∧ Below q w w9) := by
                refine ⟨H.out.1.below (by rw [← H.out.2.2.2.2]; exact hb9), (own_nin (World.ownsRow.kept E7.out.2.2.1 gr E8.out.2.2) (by have := HN.out; unfold maxLen; omega) (fun z hz => wf8 (H.out.1.2.2.1 z hz))).b, ⟨trivial, trivial⟩, hb9⟩
              have E9 : Hid (BIn w9 a0 len0 X ∧ BIn w9 A7 len0 X ∧ True ∧ True ∧ Below q w w9) := ⟨E9.out.1, E9.out.2.1, E9.out.2.2.1.1, E9.out.2.2.1.2, E9.out.2.2.2⟩
              clear ot gr hb9
              go_wp2_with fail
              refine (sameBytes_of a0 len0 cap0 X A7 len0 C7 X w9 E9.out.1 E9.out.2.1 rfl).mono ?_
              rintro e w9 ⟨rfl, rfl⟩
              go_wp2
              go_ret
              exact ⟨rfl, E9.out.2.2.2.2⟩

set_option maxRecDepth 100000 in
theorem lifted (os : Os) (started : os.Started) (H : Type) (enc : TypeId × Value → H) :
    ReturnsInHanded {} Try.checked os 6 .any (Rows.wireOwnSpec.pre6 enc Try.prog Try.f6 Rows.wireOwnRow.domain false) (Rows.wireOwnSpec.post enc Try.prog Try.f6 false true false false) := by
  refine returnsInHanded_of_change (C := Try.checked) own started (by kernel_rfl) Try.func6
    (ChangeSpec.witness6 (enc := enc) (C := Try.checked) false ⟨#[], #[.slice none 0 0, .slice none 0 0], []⟩ 8 (by kernel_rfl) (by kernel_rfl) (by kernel_rfl) (by kernel_rfl)) ?_
  intro W base args ds gs before hval0 hW hcnd _
  have hval : ∀ (j : Nat) t v, Try.f6.params[j]? = some t → args[j]? = some v → Value.okWide Try.prog W .any base t v := hval0
  have hW' := hW
  obtain ⟨p, q, hA0, hV, rfl, hfz, hnd⟩ := hW
  have hA : DataW.TrodAll enc Try.prog W 0 (fun _ => true) true Try.f6.params.toList args.toList ds p := hA0
  rw [Try.params6] at hA hval
  obtain ⟨v0, vs0, d0, ds0, p0, q0, hargs, rfl, rfl, h0, r0⟩ := trodAll_cons hA
  obtain ⟨v1, vs1, d1, ds1, p1, q1, rfl, rfl, rfl, h1, r1⟩ := trodAll_cons r0
  obtain ⟨rfl, rfl, rfl⟩ := trodAll_nil r1
  obtain rfl : args = #[v0, v1] := by cases args; simp_all
  obtain ⟨rfl, rfl⟩ := trodVars_none hV
  obtain ⟨a0, len0, cap0, rfl⟩ := okWide_slice Try.underlying26 (hval 0 26 v0 rfl rfl)
  have k0 := h0
  have lt0 : ∀ x ∈ p0, x.block < W.heap.size := by obtain ⟨m, hm⟩ := k0; exact DataW.trod_lt m _ _ _ hm
  obtain ⟨z0, w0⟩ : ∃ zs, IsRow .u8 W a0 len0 cap0 zs := by
    obtain ⟨fuel, hf⟩ := h0
    rcases open_ints Try.underlying26 Try.underlying5 (by kernel_rfl) hf with ⟨hcs, _⟩ | ⟨x, l, c, zs, hcs, _, hl, hm, hz, _, hcell, hwz⟩
    · simp [Value.cells] at hcs
      obtain ⟨rfl, rfl, rfl⟩ := hcs
      exact ⟨[], .inl ⟨rfl, rfl, rfl, rfl⟩⟩
    · simp [Value.cells] at hcs
      obtain ⟨rfl, rfl, rfl⟩ := hcs
      exact ⟨zs, .inr ⟨_, rfl, hl, hm, by simpa using hz, hcell, hwz⟩⟩
  obtain ⟨a1, len1, cap1, rfl⟩ := okWide_slice Try.underlying22 (hval 1 22 v1 rfl rfl)
  have k1 := h1
  have lt1 : ∀ x ∈ p1, x.block < W.heap.size := by obtain ⟨m, hm⟩ := k1; exact DataW.trod_lt m _ _ _ hm
  obtain ⟨z1, w1⟩ : ∃ zs, IsRow .i64 W a1 len1 cap1 zs := by
    obtain ⟨fuel, hf⟩ := h1
    rcases open_ints Try.underlying22 Try.underlying3 (by kernel_rfl) hf with ⟨hcs, _⟩ | ⟨x, l, c, zs, hcs, _, hl, hm, hz, _, hcell, hwz⟩
    · simp [Value.cells] at hcs
      obtain ⟨rfl, rfl, rfl⟩ := hcs
      exact ⟨[], .inl ⟨rfl, rfl, rfl, rfl⟩⟩
    · simp [Value.cells] at hcs
      obtain ⟨rfl, rfl, rfl⟩ := hcs
      exact ⟨zs, .inr ⟨_, rfl, hl, hm, by simpa using hz, hcell, hwz⟩⟩
  clear hA0 hval0
  refine (walk a0 len0 cap0 z0 a1 len1 cap1 z1 W w0 w1).mono fun e W' ⟨he, bel⟩ => ?_
  subst he
  exact ⟨_, rfl, _, _, _, [], _, [], hW', trodAll_mk1 (shut_bool Try.underlying4 _), (trodAll_cons_mk (Below.trod laidOut (by kernel_rfl) (of_decide_eq_true (by kernel_rfl)) k0 bel lt0) (trodAll_cons_mk (Below.trod laidOut (by kernel_rfl) (of_decide_eq_true (by kernel_rfl)) k1 bel lt1) trodAll_mk0)), rfl, bel.frame _, fun h => by cases h⟩

theorem over : Rows.wireOwnRow.holds Try.pinned (OpenSpec.ofChange Rows.wireOwnSpec) :=
  OpenClaim.holds_of_wide 6 Try.f6 rfl rfl rfl rfl rfl rfl rfl ⟨rfl, rfl, rfl, rfl, rfl⟩ rfl rfl rfl rfl rfl (by kernel_rfl) Try.func6 (by kernel_rfl)
    (of_decide_eq_true (by kernel_rfl)) (by unfold Func.isWrapper; first | (rw [if_pos (by decide +kernel)]; kernel_rfl) | (rw [if_neg (by decide +kernel)]; exact ⟨rfl, rfl⟩))
    (fun os started H enc _ => lifted os started H enc)

end Go.Proofs.Ytckigbmlpmpmkaa.wireOwn
namespace Go.Proofs.Ytckigbmlpmpmkaa
/-- The statement. -/
theorem wireOwn_holds : Rows.WireOwnSaid := wireOwn.over
#print axioms wireOwn_holds
end Go.Proofs.Ytckigbmlpmpmkaa
