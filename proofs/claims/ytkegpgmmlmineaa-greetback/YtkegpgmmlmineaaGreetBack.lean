/- What is asked in the form that a client uses is read, any name and any numbers; with a byte more, or less, it has another form. -/
import Derived.Test.YtkegpgmmlmineaaRows
import Derived.Test.YtkegpgmmlmineaaGBackS
import Derived.WalkKit
import Derived.ProofKit
import Derived.OpenShut
import Derived.ShutString
import Derived.ChangeOld
import Derived.Below
namespace Go.Proofs.Ytkegpgmmlmineaa.greetBack
open Go.ChangeShapes Go.WideShapes Go.ChangeAt Go.RowKit
open Go.ChangeMaps (open_string shut_string)
set_option linter.unusedVariables false

theorem own : ownKnob Try.prog.godebug = none := by kernel_rfl
theorem laidOut : laidOutB Try.prog = true := by kernel_rfl

/-- WHAT THE WALK IS TOLD OF A SLICE OF INTEGERS THAT CAME IN: it is nil; or it leads to a row of 'cap' cells, the numbers 'zs' (the first 'len' are its elements, the rest its spare room), each fitting its kind. -/
def IsRow (k : IntKind) (w : World) (a : Option Addr) (len cap : Nat) (zs : List Int) : Prop :=
  (a = none ∧ len = 0 ∧ cap = 0 ∧ zs = []) ∨
  ∃ x, a = some x ∧ len ≤ cap ∧ cap ≤ maxLen ∧ zs.length = cap ∧ (∀ i, i < zs.length → w.cell? (x.add i) = some (.int k (zs.getD i 0))) ∧ ∀ n ∈ zs, (Lit.int k n).wf = true

set_option maxHeartbeats 2000000 in
theorem walk (a0 : ByteArray) (a1 : Option Addr) (len1 cap1 : Nat) (z1 : List Int) (a2 : Int) (w : World) (w0 : a0.size ≤ maxLen) (w1 : IsRow .u16 w a1 len1 cap1 z1) (w2 : (Lit.int .u8 a2).wf = true) :
    Calls Try.prog 7 #[.string a0, .slice a1 len1 cap1, .int .u8 a2] w fun e w' => e = .returned (.bool true) ∧ Below w.heap.size w w' := by
  obtain ⟨hx, hxc, hxn⟩ := row_nin w1
  obtain ⟨X, eX⟩ : ∃ X, X = z1.take len1 := ⟨_, rfl⟩
  rw [← eX] at hx
  have fX : ∀ x ∈ X, Fits16 x := fun x h => fits16 (hx.2.2.1 x h)
  have f2 := fits8 w2
  have H : Hid (NIn .u16 w a1 len1 X ∧ (∀ x ∈ X, Fits16 x) ∧ Fits8 a2) := ⟨hx, fX, f2⟩
  clear hx hxc hxn eX w0 w1 w2 fX f2
  by_cases h1 : (255 : Int) < a0.size
  · go_enter Try.func7, Try.ntmps7
    go_wp2_with (go_at_call 15; refine (gknown_any _).mono ?_; rintro e W ⟨rfl, b⟩)
    go_ret
    exact ⟨rfl, b⟩
  have d1 : decide (255 < (a0.size : Int)) = false := decide_eq_false (by omega)
  by_cases h2 : (300 : Int) < len1
  · go_enter Try.func7, Try.ntmps7
    go_wp2_with (go_at_call 15; refine (gknown_any _).mono ?_; rintro e W ⟨rfl, b⟩)
    go_ret
    exact ⟨rfl, b⟩
  have d2 : decide (300 < (len1 : Int)) = false := decide_eq_false (by omega)
  have n1 : a0.size ≤ 255 := by omega
  have n2 : len1 ≤ 300 := by omega
  have hXl := H.out.1.1
  have hL := nums_length a0
  obtain ⟨L, eL⟩ : ∃ L, L = nums a0 := ⟨_, rfl⟩
  have hLs : strOfNums L = a0 := by rw [eL]; exact nums_str a0
  have hLf : ∀ z ∈ L, Fits8 z := by rw [eL]; exact nums_fits a0
  rw [← eL] at hL
  obtain ⟨B, eB⟩ : ∃ B, B = nameB L ++ listB X := ⟨_, rfl⟩
  obtain ⟨y1, y2, y3⟩ := ask_yes L X (by omega) H.out.2.1
  have y4 := ask_more L X a2 (by omega)
  have y5 := ask_less L X (by omega)
  have y6 := ask_fits L X (by omega) hLf (by omega)
  have hBl : B.length = 6 + a0.size + 2 * len1 := by rw [eB, List.length_append, nameB_length, listB_length, hL, hXl]; omega
  rw [← eB] at y1 y2 y3 y4 y5 y6
  rw [hL, hXl] at y5
  obtain ⟨Q, eQ⟩ : ∃ Q, Q = nameB L ++ [(len1 : Int) / 256, (len1 : Int) % 256] := ⟨_, rfl⟩
  have hQB : Q ++ twoB X = B := by rw [eQ, eB]; unfold listB; rw [hXl, List.append_assoc]
  have HP : Hid (askE B = 0 ∧ strOfNums (askS B) = a0 ∧ askL B = X ∧ askE (B ++ [a2]) = 74 ∧ askE (B.take (4 + a0.size + (1 + 2 * len1))) = 74 ∧ (∀ z ∈ B, Fits8 z) ∧ B.length = 6 + a0.size + 2 * len1) := ⟨y1, by rw [y2]; exact hLs, y3, y4, y5, y6, hBl⟩
  have HQ : Hid (Q ++ twoB X = B ∧ Q = nameB L ++ [(len1 : Int) / 256, (len1 : Int) % 256] ∧ nameB L = [0, 0, 0, (a0.size : Int)] ++ nums a0) := ⟨hQB, eQ, by unfold nameB; rw [hL, eL]⟩
  clear hXl hL eL hLs hLf eB y1 y2 y3 y4 y5 y6 hBl eQ hQB
  go_enter Try.func7, Try.ntmps7
  go_wp2_with fail
  refine (gknown_any _).mono ?_
  rintro e V ⟨rfl, b1⟩
  have B1 : Hid (Below w.heap.size w V) := b1
  clear b1
  go_upto_region 4 with fail
  have own0 := own_lit (w := V) (g := V.heap.size) (n := 4) (L := [0, 0, 0, (a0.size : Int)]) (C := #[.int .u8 0, .int .u8 0, .int .u8 0, .int .u8 (a0.size : Int)]) rfl rfl rfl (by unfold maxLen; omega)
  have bw : Below w.heap.size w (V.alloc (.cells #[.int .u8 0, .int .u8 0, .int .u8 0, .int .u8 (a0.size : Int)] 5)) := B1.out.alloc B1.out.size _
  have hsz : V.heap.size ≤ (V.alloc (.cells #[.int .u8 0, .int .u8 0, .int .u8 0, .int .u8 (a0.size : Int)] 5)).heap.size := by simp
  obtain ⟨g, hg⟩ : ∃ g, g = V.heap.size := ⟨_, rfl⟩
  rw [← hg] at own0 hsz ⊢
  generalize hU : World.alloc V _ = U at own0 bw hsz ⊢
  have B2 : Hid (U.ownsRow g 5 1 (.slice (some ⟨g, 0, none⟩) 4 4) 4 (u8s [0, 0, 0, (a0.size : Int)]) ∧ Below w.heap.size w U ∧ g ≤ U.heap.size ∧ w.heap.size ≤ g) := ⟨own0, bw, hsz, by rw [hg]; exact B1.out.size⟩
  clear own0 bw hsz hU hg
  go_upto_region 5 with (refine wpList_append_str rfl (.tmp 36) (.tmp 37) rfl g (some ⟨g, 0, none⟩) 4 4 [0, 0, 0, (a0.size : Int)] rfl B2.out.1 a0 rfl (by omega) B2.out.2.2.1 ?_; intro A3 C3 w3 ow3 b3)
  have B3 : Hid (w3.ownsRow g 5 1 (.slice A3 (4 + a0.size) C3) (4 + a0.size) (u8s (nameB L)) ∧ Below w.heap.size w w3 ∧ g ≤ w3.heap.size ∧ w.heap.size ≤ g) := by
    refine ⟨by rw [HQ.out.2.2]; exact ow3, B2.out.2.1.trans (b3.mono B2.out.2.2.2), Nat.le_trans B2.out.2.2.1 b3.size, B2.out.2.2.2⟩
  clear ow3 b3
  go_upto_region 6 with (at_builtin; refine wpList_append_bin rfl (.tmp 39) (.tmp 47) rfl g A3 (4 + a0.size) C3 (nameB L) rfl (B3.out.1.alloc _) (some ⟨w3.heap.size, 0, none⟩) 2 2 [(len1 : Int) / 256, (len1 : Int) % 256] rfl (new_bin rfl rfl rfl (by intro z hz; simp only [List.mem_cons, List.not_mem_nil, or_false] at hz; unfold Fits8; omega) (by unfold maxLen; omega)) (fun h => by cases h) (by omega) (by have := B3.out.2.2.1; simp; omega) ?_; intro A4 C4 w4 ow4 b4)
  have B4 : Hid (w4.ownsRow g 5 1 (.slice A4 (4 + a0.size + 2) C4) (4 + a0.size + 2) (u8s Q) ∧ Below w.heap.size w w4 ∧ g ≤ w4.heap.size ∧ w.heap.size ≤ g) := by
    have hb : Below g w3 w4 := ((Below.refl _ _).alloc B3.out.2.2.1 _).trans b4
    refine ⟨by rw [HQ.out.2.1]; exact ow4, B3.out.2.1.trans (hb.mono B3.out.2.2.2), Nat.le_trans B3.out.2.2.1 hb.size, B3.out.2.2.2⟩
  clear ow4 b4
  go_wp2
  go_loopw [7, 8] (fun s i wr => ∃ (j P : Nat) (A' : Option Addr) (C' : Nat), j ≤ len1 ∧ P = 6 + a0.size + 2 * j ∧ i = .int .i64 j ∧ s = .slice A' P C' ∧ wr.ownsRow g 5 1 (.slice A' P C') P (u8s (Q ++ twoB (X.take j))) ∧ Below w.heap.size w wr ∧ g ≤ wr.heap.size)
    (fun _ i _ => len1 - (intOf i).toNat)
  case atStart =>
    have e : 6 + a0.size = 4 + a0.size + 2 := by omega
    exact ⟨0, 4 + a0.size + 2, A4, C4, by omega, by omega, rfl, rfl, by simpa [twoB, packL] using B4.out.1, B4.out.2.1, B4.out.2.2.1⟩
  case round =>
    obtain ⟨j, P, A', C', hj, hP, rfl, rfl, ow, bl, hs⟩ := hrel
    have HK : Hid (wr.ownsRow g 5 1 (.slice A' P C') P (u8s (Q ++ twoB (X.take j))) ∧ Below w.heap.size w wr ∧ g ≤ wr.heap.size ∧ P = 6 + a0.size + 2 * j) := ⟨ow, bl, hs, hP⟩
    have hPb : P ≤ 900 := by omega
    clear ow bl hs hP
    by_cases hlt : j < len1
    · have hlt' : (j : Int) < len1 := by omega
      have hnw := H.out.1.below HK.out.2.1
      obtain ⟨b1, o1, rfl, hc1⟩ := hnw.2.2.2.resolve_left (by omega)
      have ca := hc1 j hlt
      have hjl : j < X.length := by rw [H.out.1.1]; exact hlt
      have hf : Fits16 (X.getD j 0) := H.out.2.1 _ (by simp only [List.getD, List.getElem?_eq_getElem hjl, Option.getD_some]; exact List.getElem_mem hjl)
      have hnx := twoB_next X hjl hf
      obtain ⟨x, ex⟩ : ∃ x, x = X.getD j 0 := ⟨_, rfl⟩
      rw [← ex] at ca hf hnx
      have HX : Hid (Fits16 x ∧ twoB (X.take (j + 1)) = twoB (X.take j) ++ [x / 256, x % 256]) := ⟨hf, hnx⟩
      unfold Fits16 at hf
      obtain ⟨x0, x1⟩ := hf
      have hw1 : IntKind.u8.wrap (x / 256) = x / 256 := by rw [IntKind.wrap_u8]; omega
      have hw2 : IntKind.u8.wrap x = x % 256 := by rw [IntKind.wrap_u8]
      clear hc1 ex hnx hnw hjl
      go_wp2
      go_region_law (refine step_append_nin (k := .u8) (size := 1) Try.underlying22 Try.zero_u8 (by decide) rfl (.tmp 55) (.tmp 67) rfl g A' P C' _ rfl (HK.out.1.alloc _) (some ⟨wr.heap.size, 0, none⟩) 2 2 [x / 256, x % 256] rfl (new_nin rfl rfl rfl (by have := HX.out.1; unfold Fits16 at this; intro z hz; simp only [List.mem_cons, List.not_mem_nil, or_false] at hz; exact wf8 (by unfold Fits8; omega)) (by unfold maxLen; omega)) (fun h => by cases h) (by omega) (by have := HK.out.2.2.1; simp; omega) ?_; intro A9 C9 w9 ow9 bl9)
      all_goals (
        have H9 : Hid (w9.ownsRow g 5 1 (.slice A9 (P + 2) C9) (P + 2) (u8s (Q ++ twoB (X.take (j + 1)))) ∧ Below w.heap.size w w9 ∧ g ≤ w9.heap.size) := by
          have hb : Below g wr w9 := ((Below.refl _ _).drew.alloc HK.out.2.2.1 _).trans bl9
          refine ⟨by rw [HX.out.2, ← List.append_assoc]; exact ow9, HK.out.2.1.trans (hb.mono B4.out.2.2.2), Nat.le_trans HK.out.2.2.1 hb.size⟩
        clear ow9 bl9
        go_wp2
        go_roundw
        case rel => exact ⟨j + 1, P + 2, A9, C9, by omega, by have := HK.out.2.2.2; omega, by go_num, by rfl, H9.out.1, H9.out.2.1, H9.out.2.2⟩
        case measure => simp [intOf] <;> omega)
    · have hge : (len1 : Int) ≤ j := by omega
      have hjm : j = len1 := by omega
      have eT : Q ++ twoB (X.take j) = B := by rw [List.take_of_length_le (by rw [H.out.1.1, hjm]; exact Nat.le_refl _)]; exact HQ.out.1
      have hPl : P = 6 + a0.size + 2 * len1 := by have := HK.out.2.2.2; rw [hjm] at this; exact this
      have hP1 : (1 : Int) ≤ P := by omega
      obtain ⟨w5, e5⟩ : ∃ w5, w5 = wr := ⟨_, rfl⟩
      have B5 : Hid (BIn w5 A' P B ∧ (A' = none → P = 0 ∧ C' = 0) ∧ P ≤ C' ∧ Below w.heap.size w w5 ∧ P = 6 + a0.size + 2 * len1) := by
        have ow := HK.out.1
        rw [eT] at ow
        rw [e5]
        exact ⟨own_bin ow (by unfold maxLen; omega) HP.out.2.2.2.2.2.1, own_nil ow, own_capN ow, HK.out.2.1, hPl⟩
      rw [← e5]
      clear HK hjm eT hPl e5 hlt
      go_wp2_with fail
      refine (asked_of A' P C' B w5 B5.out.1 B5.out.2.1 B5.out.2.2.1 (by omega)).mono ?_
      rw [HP.out.1, HP.out.2.1, HP.out.2.2.1]
      rintro e w6 ⟨A6, k6, C6, rfl, d6, b6⟩
      have hk6 : k6 = len1 := by rw [← d6.1, H.out.1.1]
      subst hk6
      have B6 : Hid (NIn .u16 w6 A6 k6 X ∧ Below w5.heap.size w5 w6 ∧ Below w.heap.size w w6 ∧ NIn .u16 w6 a1 k6 X) := by
        have h1 := B5.out.2.2.2.1.trans (b6.mono B5.out.2.2.2.1.size)
        exact ⟨d6, b6, h1, H.out.1.below h1⟩
      clear d6 b6
      go_wp2
      go_loopw [12] (fun i wr => ∃ (j d : Nat), j ≤ k6 ∧ i = .int .i64 j ∧ wr = w6.drewN d)
        (fun i _ => k6 - (intOf i).toNat)
      case atStart => exact ⟨0, 0, by omega, rfl, rfl⟩
      case round =>
        obtain ⟨j2, d, hj2, rfl, rfl⟩ := hrel
        by_cases hlt2 : j2 < k6
        · have hlt' : (j2 : Int) < k6 := by omega
          obtain ⟨b1, o1, rfl, hc1⟩ := B6.out.1.2.2.2.resolve_left (by omega)
          obtain ⟨b2, o2, rfl, hc2⟩ := B6.out.2.2.2.2.2.2.resolve_left (by omega)
          have c1 := hc1 j2 hlt2
          have c2 := hc2 j2 hlt2
          obtain ⟨x, ex⟩ : ∃ x, x = X.getD j2 0 := ⟨_, rfl⟩
          rw [← ex] at c1 c2
          clear hc1 hc2 ex
          go_wp2
          go_quiet (fail)
          go_wp2
          go_roundw
          case rel => exact ⟨j2 + 1, _, by omega, by go_num, rfl⟩
          case measure => simp [intOf]; omega
        · have hge2 : (k6 : Int) ≤ j2 := by omega
          have hb7 : Below w5.heap.size w5 (w6.drewN d) := below_drewN B6.out.2.1 d
          have hb8 : Below w.heap.size w (w6.drewN d) := below_drewN B6.out.2.2.1 d
          generalize hW7 : w6.drewN d = w7 at hb7 hb8 ⊢
          have B7 : Hid (BIn w7 A' P B ∧ Below w.heap.size w w7) := ⟨B5.out.1.below hb7, hb8⟩
          clear hb7 hb8 hW7 hlt2
          go_wp2_with fail
          refine (lentBytes_of A' P C' B w7 B7.out.1 B5.out.2.1 (by omega)).mono ?_
          rintro e w8 ⟨A8, C8, rfl, ow8, b8⟩
          have B8 : Hid (w8.ownsRow w7.heap.size 5 1 (.slice A8 P C8) P (u8s B) ∧ Below w7.heap.size w7 w8) := ⟨ow8, b8⟩
          clear ow8 b8
          go_wp2_with (at_builtin; refine wpList_append_bin rfl (.tmp 106) (.tmp 108) rfl w7.heap.size A8 P C8 B rfl (B8.out.1.alloc _) (some ⟨w8.heap.size, 0, none⟩) 1 1 [a2] rfl (new_bin rfl rfl rfl (by intro z hz; simp only [List.mem_cons, List.not_mem_nil, or_false] at hz; rw [hz]; exact H.out.2.2) (by unfold maxLen; omega)) (fun h => by cases h) (by omega) (by have := B8.out.2.size; simp; omega) ?_; intro A9 C9 w9 ow9 b9)
          have B9 : Hid (BIn w9 A9 (P + 1) (B ++ [a2]) ∧ (A9 = none → P + 1 = 0 ∧ C9 = 0) ∧ P + 1 ≤ C9 ∧ Below w7.heap.size w7 w9) := by
            refine ⟨own_bin ow9 (by unfold maxLen; omega) ?_, own_nil ow9, own_capN ow9, (B8.out.2.alloc B8.out.2.size _).trans b9⟩
            intro z hz
            rcases List.mem_append.1 hz with hz | hz
            · exact HP.out.2.2.2.2.2.1 z hz
            · simp only [List.mem_cons, List.not_mem_nil, or_false] at hz; rw [hz]; exact H.out.2.2
          clear ow9 b9
          refine (asked_of A9 (P + 1) C9 (B ++ [a2]) w9 B9.out.1 B9.out.2.1 B9.out.2.2.1 (by omega)).mono ?_
          rw [HP.out.2.2.2.1]
          obtain ⟨S9, hS9⟩ : ∃ S9, S9 = strOfNums (askS (B ++ [a2])) := ⟨_, rfl⟩
          rw [← hS9]
          clear hS9
          rintro e w10 ⟨A10, k10, C10, rfl, -, b10⟩
          have B10 : Hid (BIn w10 A' P B ∧ Below w.heap.size w w10) := by
            have h1 : Below w7.heap.size w7 w10 := B9.out.2.2.2.trans (b10.mono B9.out.2.2.2.size)
            exact ⟨B7.out.1.below h1, B7.out.2.trans (h1.mono B7.out.2.size)⟩
          clear b10
          have hsl : ∀ w, (Instr.slice 22 (.slice A' P C') none (some (.int .i64 ((P : Int) - 1))) none).run Try.prog w = .ok (.slice A' (P - 1) C') w := fun w => by
            have := slice_front Try.underlying22 Try.one_bytes A' P C' (P - 1) (by have := B5.out.2.2.1; omega) w
            rw [show (((P - 1 : Nat)) : Int) = (P : Int) - 1 by omega] at this
            exact this
          have cL := asked_of A' (P - 1) C' (B.take (P - 1)) w10 (B10.out.1.n.front (P - 1) (by omega)).b (fun e => by have := B5.out.2.1 e; omega) (by have := B5.out.2.2.1; omega) (by omega)
          rw [show B.take (P - 1) = B.take (4 + a0.size + (1 + 2 * k6)) by congr 1; have := B5.out.2.2.2.2; omega, HP.out.2.2.2.2.1] at cL
          obtain ⟨S11, hS11⟩ : ∃ S11, S11 = strOfNums (askS (B.take (4 + a0.size + (1 + 2 * k6)))) := ⟨_, rfl⟩
          rw [← hS11] at cL
          clear hS11
          go_wp2_with fail
          refine cL.mono ?_
          rintro e w11 ⟨A11, k11, C11, rfl, -, b11⟩
          have B11 : Hid (Below w.heap.size w w11) := B10.out.2.trans (b11.mono B10.out.2.size)
          clear b11 cL hsl
          go_wp2
          go_ret
          exact ⟨rfl, B11.out⟩

set_option maxRecDepth 100000 in
theorem lifted (os : Os) (started : os.Started) (H : Type) (enc : TypeId × Value → H) :
    ReturnsInHanded {} Try.checked os 7 .any (Rows.greetBackSpec.pre6 enc Try.prog Try.f7 Rows.greetBackRow.domain false) (Rows.greetBackSpec.post enc Try.prog Try.f7 false true false false) := by
  refine returnsInHanded_of_change (C := Try.checked) own started (by kernel_rfl) Try.func7
    (ChangeSpec.witness6 (enc := enc) (C := Try.checked) false ⟨#[], #[.string ByteArray.empty, .slice none 0 0, .int .u8 0], []⟩ 8 (by kernel_rfl) (by kernel_rfl) (by kernel_rfl) (by kernel_rfl)) ?_
  intro W base args ds gs before hval0 hW hcnd _
  have hval : ∀ (j : Nat) t v, Try.f7.params[j]? = some t → args[j]? = some v → Value.okWide Try.prog W .any base t v := hval0
  have hW' := hW
  obtain ⟨p, q, hA0, hV, rfl, hfz, hnd⟩ := hW
  have hA : DataW.TrodAll enc Try.prog W 0 (fun _ => true) true Try.f7.params.toList args.toList ds p := hA0
  rw [Try.params7] at hA hval
  obtain ⟨v0, vs0, d0, ds0, p0, q0, hargs, rfl, rfl, h0, r0⟩ := trodAll_cons hA
  obtain ⟨v1, vs1, d1, ds1, p1, q1, rfl, rfl, rfl, h1, r1⟩ := trodAll_cons r0
  obtain ⟨v2, vs2, d2, ds2, p2, q2, rfl, rfl, rfl, h2, r2⟩ := trodAll_cons r1
  obtain ⟨rfl, rfl, rfl⟩ := trodAll_nil r2
  obtain rfl : args = #[v0, v1, v2] := by cases args; simp_all
  obtain ⟨rfl, rfl⟩ := trodVars_none hV
  obtain ⟨a0, rfl, rfl, rfl, w0⟩ := open_string Try.underlying9 (hval 0 9 v0 rfl rfl) h0
  obtain ⟨a1, len1, cap1, rfl⟩ := okWide_slice Try.underlying40 (hval 1 40 v1 rfl rfl)
  have k1 := h1
  have lt1 : ∀ x ∈ p1, x.block < W.heap.size := by obtain ⟨m, hm⟩ := k1; exact DataW.trod_lt m _ _ _ hm
  obtain ⟨z1, w1⟩ : ∃ zs, IsRow .u16 W a1 len1 cap1 zs := by
    obtain ⟨fuel, hf⟩ := h1
    rcases open_ints Try.underlying40 Try.underlying24 (by kernel_rfl) hf with ⟨hcs, _⟩ | ⟨x, l, c, zs, hcs, _, hl, hm, hz, _, hcell, hwz⟩
    · simp [Value.cells] at hcs
      obtain ⟨rfl, rfl, rfl⟩ := hcs
      exact ⟨[], .inl ⟨rfl, rfl, rfl, rfl⟩⟩
    · simp [Value.cells] at hcs
      obtain ⟨rfl, rfl, rfl⟩ := hcs
      exact ⟨zs, .inr ⟨_, rfl, hl, hm, by simpa using hz, hcell, hwz⟩⟩
  obtain ⟨a2, rfl, rfl, rfl, w2⟩ := open_int Try.underlying5 (hval 2 5 v2 rfl rfl) h2
  clear hA0 hval0
  refine (walk a0 a1 len1 cap1 z1 a2 W w0 w1 w2).mono fun e W' ⟨he, bel⟩ => ?_
  subst he
  exact ⟨_, rfl, _, _, _, [], _, [], hW', trodAll_mk1 (shut_bool Try.underlying4 _), (trodAll_cons_mk (shut_string Try.underlying9 w0) (trodAll_cons_mk (Below.trod laidOut (by kernel_rfl) (of_decide_eq_true (by kernel_rfl)) k1 bel lt1) (trodAll_cons_mk (shut_int Try.underlying5 w2) trodAll_mk0))), rfl, bel.frame _, fun h => by cases h⟩

theorem over : Rows.greetBackRow.holds Try.pinned (OpenSpec.ofChange Rows.greetBackSpec) :=
  OpenClaim.holds_of_wide 7 Try.f7 rfl rfl rfl rfl rfl rfl rfl ⟨rfl, rfl, rfl, rfl, rfl⟩ rfl rfl rfl rfl rfl (by kernel_rfl) Try.func7 (by kernel_rfl)
    (of_decide_eq_true (by kernel_rfl)) (by unfold Func.isWrapper; first | (rw [if_pos (by decide +kernel)]; kernel_rfl) | (rw [if_neg (by decide +kernel)]; exact ⟨rfl, rfl⟩))
    (fun os started H enc _ => lifted os started H enc)

end Go.Proofs.Ytkegpgmmlmineaa.greetBack
namespace Go.Proofs.Ytkegpgmmlmineaa
/-- The statement. -/
theorem greetBack_holds : Rows.GreetBackSaid := greetBack.over
#print axioms greetBack_holds
end Go.Proofs.Ytkegpgmmlmineaa
