/- For every two lists of bytes, every number and every byte that can be handed in the law MacTurns returns true, and the lists read as they did. -/
import Derived.Test.YtakbnecmaccieaaDoorRows
import Derived.Test.YtakbnecmaccieaaDoorCards
import Derived.Test.YtakbnecmaccieaaDoorTie
import Derived.Test.YtakbnecmaccieaaDoorLaid
import Derived.Test.YtakbnecmaccieaaDoorFar
import Derived.Stop.Joined
import Derived.SevenTiedAt
import Derived.WalkKit
import Derived.ProofKit
import Derived.OpenShut
import Derived.ShutString
import Derived.ChangeOld
import Derived.Below
namespace Go.Proofs.YtakbnecmaccieaaDoor.macTurns
open Go.ChangeShapes Go.WideShapes Go.ChangeAt Go.RowKit
open Go.ChangeMaps (open_string shut_string)
set_option linter.unusedVariables false


/-- WHAT THE WALK IS TOLD OF A SLICE OF INTEGERS THAT CAME IN: it is nil; or it leads to a row of 'cap' cells, the numbers 'zs' (the first 'len' are its elements, the rest its spare room), each fitting its kind. -/
def IsRow (k : IntKind) (w : World) (a : Option Addr) (len cap : Nat) (zs : List Int) : Prop :=
  (a = none ∧ len = 0 ∧ cap = 0 ∧ zs = []) ∨
  ∃ x, a = some x ∧ len ≤ cap ∧ cap ≤ maxLen ∧ zs.length = cap ∧ (∀ i, i < zs.length → w.cell? (x.add i) = some (.int k (zs.getD i 0))) ∧ ∀ n ∈ zs, (Lit.int k n).wf = true

theorem own_set {W : World} {base : Nat} {A : Option Addr} {n C t : Nat} {Z : List Int} (ow : W.ownsRow base 5 1 (.slice A n C) n (u8s Z)) (ht : t < n) (hm : n ≤ maxLen) (hZ : ∀ z ∈ Z, Fits8 z) (z : Int) (hz : Fits8 z) :
    ∃ g, A = some ⟨g, 0, none⟩ ∧ base ≤ g ∧ g < W.heap.size ∧ W.cell? ⟨g, t, none⟩ = some (.int .u8 (Z.getD t 0)) ∧ W.frozen? ⟨g, t, none⟩ = false ∧
      BIn (W.setCell ⟨g, t, none⟩ (.int .u8 z)) (some ⟨g, 0, none⟩) n (Z.set t z) := by
  have hin := own_bin ow hm hZ
  have hl : Z.length = n := hin.1
  rcases ow.2 with ⟨_, hn⟩ | ⟨g, cap, cur, hv, hb, hg, hc, hcm, hsz, htake⟩
  · omega
  · cases hv
    have hcell : ∀ i, i < n → W.cell? ⟨g, i, none⟩ = some (.int .u8 (Z.getD i 0)) := by
      intro i hi
      rcases hin.2.2.2 with h | ⟨b, off, ha, hc'⟩
      · omega
      · cases ha
        have := hc' i hi
        rwa [Nat.zero_add] at this
    have hlt := (Array.getElem?_eq_some_iff.1 hg).1
    refine ⟨g, rfl, hb, hlt, hcell t ht, ?_, ?_⟩
    · simp [World.frozen?, hg]
    · refine ⟨by simp [hl], hm, ?_, .inr ⟨g, 0, rfl, fun i hi => ?_⟩⟩
      · intro y hy
        rcases List.mem_or_eq_of_mem_set hy with h | h
        · exact hZ y h
        · rw [h]; exact hz
      · rw [Nat.zero_add]
        by_cases hit : i = t
        · subst hit
          rw [World.cell?_setCell_same _ _ _ (hcell i hi)]
          simp [List.getD, hl, hi]
        · rw [World.cell?_setCell_other _ _ _ _ (by intro e; cases e; exact hit rfl), hcell i hi]
          simp [List.getD, hl, hi, Ne.symm hit]
theorem set_same {Z : List Int} {t : Nat} {z : Int} (ht : t < Z.length) : decide (Z = Z.set t z) = (Z.getD t 0 == z) := by
  have hg : Z.getD t 0 = Z[t] := by simp [List.getD, ht]
  rw [Bool.eq_iff_iff, beq_iff_eq, decide_eq_true_iff, hg]
  constructor
  · intro h
    have := congrArg (fun l : List Int => l[t]?) h
    simpa [ht] using this
  · intro h; rw [← h, List.set_getElem_self]
theorem more_other (X : List Int) (z : Int) : decide (X = X ++ [z]) = false := by
  rw [decide_eq_false_iff_not]
  intro h
  have := congrArg List.length h
  simp at this
set_option maxHeartbeats 2000000 in
theorem walk (a0 : Option Addr) (len0 cap0 : Nat) (z0 : List Int) (a1 : Option Addr) (len1 cap1 : Nat) (z1 : List Int) (a2 : Int) (a3 : Int) (w : World) (hG : GIn w) (w0 : IsRow .u8 w a0 len0 cap0 z0) (w1 : IsRow .u8 w a1 len1 cap1 z1) (w2 : (Lit.int .i64 a2).wf = true) (w3 : (Lit.int .u8 a3).wf = true) :
    Calls Tryd.prog 7 #[.slice a0 len0 cap0, .slice a1 len1 cap1, .int .i64 a2, .int .u8 a3] w fun e w' => e = .returned (.bool true) ∧ Below w.heap.size w w' := by
  obtain ⟨hB0, hc0, hnil0⟩ := row_bin w0
  obtain ⟨hB1, hc1, hnil1⟩ := row_bin w1
  obtain ⟨X, hX⟩ : ∃ X, X = z0.take len0 := ⟨_, rfl⟩
  obtain ⟨Y, hY⟩ : ∃ Y, Y = z1.take len1 := ⟨_, rfl⟩
  rw [← hX] at hB0
  rw [← hY] at hB1
  have f3 : Fits8 a3 := by have := bounds_u8 w3; unfold Fits8; omega
  have bk := bounds_i64 w2
  have H : Hid (GIn w ∧ BIn w a0 len0 X ∧ BIn w a1 len1 Y ∧ (a0 = none → len0 = 0 ∧ cap0 = 0) ∧ Fits8 a3) := ⟨hG, hB0, hB1, hnil0, f3⟩
  clear hX hY w0 w1 w2 w3 hG hB0 hB1 hc0 hc1 hnil0 hnil1 f3
  by_cases l0 : (800 : Int) < len0
  · go_enter Tryd.func7, Tryd.ntmps7
    go_wp2_with (go_at_call 8; refine (mknown_any _ H.out.1).mono ?_; rintro e W ⟨rfl, b⟩)
    go_ret
    exact ⟨rfl, b⟩
  · have hl0 : (len0 : Int) ≤ 800 := by omega
    by_cases l1 : (800 : Int) < len1
    · go_enter Tryd.func7, Tryd.ntmps7
      go_wp2_with (go_at_call 8; refine (mknown_any _ H.out.1).mono ?_; rintro e W ⟨rfl, b⟩)
      go_ret
      exact ⟨rfl, b⟩
    · have hl1 : (len1 : Int) ≤ 800 := by omega
      go_enter Tryd.func7, Tryd.ntmps7
      go_upto_region 4 with (go_at_call 8; refine (mknown_any _ H.out.1).mono ?_; rintro e W ⟨rfl, bW⟩)
      have HG : Hid (BIn W a0 len0 X) := H.out.2.1.below bW
      go_upto_region 5 with (at_builtin; refine wpList_append_bin rfl (.tmp 26) (.tmp 27) rfl W.heap.size none 0 0 [] rfl (World.ownsRow_nil _ _ _ _) a0 len0 cap0 X rfl HG.out H.out.2.2.2.1 (by omega) (Nat.le_refl _) ?_; intro A C u1 ow1 bu1; simp only [Nat.zero_add, List.nil_append] at ow1 ⊢)
      have HO : Hid (u1.ownsRow W.heap.size 5 1 (.slice A len0 C) len0 (u8s X) ∧ Below W.heap.size W u1) := ⟨ow1, bu1⟩
      clear ow1 bu1
      go_upto_region 6 with (at_builtin; refine wpList_append_bin rfl (.tmp 29) (.tmp 31) rfl W.heap.size A len0 C X rfl (HO.out.1.alloc _) (some ⟨u1.heap.size, 0, none⟩) 1 1 [a3] rfl (new_bin rfl rfl rfl (by simpa using H.out.2.2.2.2) (by unfold maxLen; omega)) (fun h => by cases h) (by omega) (by have := HO.out.2.size; simp; omega) ?_; intro A2 C2 u2 ow2 bu2)
      have HU : Hid (BIn u2 a0 len0 X ∧ BIn u2 a1 len1 Y ∧ BIn u2 A2 (len0 + 1) (X ++ [a3]) ∧ Below w.heap.size w u2) := by
        have b2 : Below W.heap.size W u2 := (HO.out.2.alloc HO.out.2.size _).trans bu2
        have b3 : Below w.heap.size w u2 := bW.trans (b2.mono bW.size)
        refine ⟨H.out.2.1.below b3, H.out.2.2.1.below b3, own_bin ow2 (by unfold maxLen; omega) ?_, b3⟩
        intro z hz
        rcases List.mem_append.1 hz with h | h
        · exact H.out.2.1.2.2.1 z h
        · have : z = a3 := by simpa using h
          rw [this]; exact H.out.2.2.2.2
      clear HO HG ow2 bu2 bW
      go_upto_region 7 with (at_builtin; refine wpList_append_bin rfl (.tmp 33) (.tmp 34) rfl u2.heap.size none 0 0 [] rfl (World.ownsRow_nil _ _ _ _) a0 len0 cap0 X rfl HU.out.1 H.out.2.2.2.1 (by omega) (Nat.le_refl _) ?_; intro A3 C3 u3 ow3 bu3; simp only [Nat.zero_add, List.nil_append] at ow3 ⊢)
      have HV : Hid (BIn u3 a0 len0 X ∧ BIn u3 a1 len1 Y ∧ BIn u3 A2 (len0 + 1) (X ++ [a3]) ∧ Below w.heap.size w u3) :=
        ⟨HU.out.1.below bu3, HU.out.2.1.below bu3, HU.out.2.2.1.below bu3, HU.out.2.2.2.trans (bu3.mono HU.out.2.2.2.size)⟩
      obtain ⟨r, hr⟩ : ∃ r, r = decide (X = Y) := ⟨_, rfl⟩
      have hr2 : decide (Y = X) = r := by rw [hr]; simp [eq_comm]
      by_cases l2 : len0 = 0
      · have hX0 : X = [] := List.length_eq_zero_iff.1 (by rw [H.out.2.1.1]; exact l2)
        have S1 := same_of a0 len0 cap0 X a1 len1 cap1 Y u3 HV.out.1 HV.out.2.1 (by omega) (by omega)
        have S2 := same_of a1 len1 cap1 Y a0 len0 cap0 X u3 HV.out.2.1 HV.out.1 (by omega) (by omega)
        have S3 := same_of a0 len0 cap0 X A2 (len0 + 1) C2 (X ++ [a3]) u3 HV.out.1 HV.out.2.2.1 (by omega) (by omega)
        have S4 := same_of a0 len0 cap0 X A3 len0 C3 X u3 HV.out.1 (own_bin ow3 (by unfold maxLen; omega) H.out.2.1.2.2.1) (by omega) (by omega)
        rw [← hr] at S1
        rw [hr2] at S2
        rw [more_other] at S3
        simp only [decide_true] at S4
        subst l2
        clear hX0 hr hr2 ow3 bu3
        go_wp2_with fail
        refine S1.mono ?_
        rintro e v1 ⟨rfl, rfl⟩
        go_wp2_with fail
        refine S2.mono ?_
        rintro e v2 ⟨rfl, rfl⟩
        go_wp2_with fail
        refine S3.mono ?_
        rintro e v3 ⟨rfl, rfl⟩
        go_wp2_with fail
        refine S4.mono ?_
        rintro e v4 ⟨rfl, rfl⟩
        go_wp2
        go_ret
        exact ⟨rfl, HV.out.2.2.2⟩
      · have hp : (0 : Int) < len0 := by omega
        have hne : ((len0 : Int) == 0) = false := by simp; omega
        obtain ⟨M, hM⟩ : ∃ M, (if a2 < 0 then (0 : Int) else a2) = M := ⟨_, rfl⟩
        have hM0 : 0 ≤ M := by rw [← hM]; split <;> omega
        have hM1 : M ≤ 9223372036854775807 := by rw [← hM]; split <;> omega
        obtain ⟨t, ht⟩ : ∃ t : Nat, M % (len0 : Int) = t := ⟨(M % (len0 : Int)).toNat, by rw [Int.toNat_of_nonneg (Int.emod_nonneg _ (by omega))]⟩
        have htl : t < len0 := by have := Int.emod_lt_of_pos M hp; omega
        have htl' : (t : Int) < len0 := by omega
        obtain ⟨g, hA, hg0, hg1, hg2, hg3, hg4⟩ := own_set ow3 htl (by unfold maxLen; omega) H.out.2.1.2.2.1 a3 H.out.2.2.2.2
        subst hA
        obtain ⟨x, hx⟩ : ∃ x, x = X.getD t 0 := ⟨_, rfl⟩
        have hs := set_same (Z := X) (t := t) (z := a3) (by rw [H.out.2.1.1]; exact htl)
        rw [← hx] at hs hg2
        obtain ⟨V, hV⟩ : ∃ V, V = u3.setCell ⟨g, t, none⟩ (.int .u8 a3) := ⟨_, rfl⟩
        rw [← hV] at hg4
        have bV : Below u2.heap.size u2 V := by rw [hV]; exact bu3.setCell hg0 _
        have HW : Hid (BIn V a0 len0 X ∧ BIn V a1 len1 Y ∧ BIn V A2 (len0 + 1) (X ++ [a3]) ∧ Below w.heap.size w V) :=
          ⟨HU.out.1.below bV, HU.out.2.1.below bV, HU.out.2.2.1.below bV, HU.out.2.2.2.trans (bV.mono HU.out.2.2.2.size)⟩
        have S1 := same_of a0 len0 cap0 X a1 len1 cap1 Y V HW.out.1 HW.out.2.1 (by omega) (by omega)
        have S2 := same_of a1 len1 cap1 Y a0 len0 cap0 X V HW.out.2.1 HW.out.1 (by omega) (by omega)
        have S3 := same_of a0 len0 cap0 X A2 (len0 + 1) C2 (X ++ [a3]) V HW.out.1 HW.out.2.2.1 (by omega) (by omega)
        have S4 := same_of a0 len0 cap0 X (some ⟨g, 0, none⟩) len0 C3 (X.set t a3) V HW.out.1 hg4 (by omega) (by omega)
        rw [← hr] at S1
        rw [hr2] at S2
        rw [more_other] at S3
        rw [hs] at S4
        clear hr hr2 ow3 bu3 HU HV hx hs hg4 bV
        go_upto_region 12 with fail
        rw [← hV]
        clear hV hg2 hg3
        go_wp2_with fail
        refine S1.mono ?_
        rintro e v1 ⟨rfl, rfl⟩
        go_wp2_with fail
        refine S2.mono ?_
        rintro e v2 ⟨rfl, rfl⟩
        go_wp2_with fail
        refine S3.mono ?_
        rintro e v3 ⟨rfl, rfl⟩
        go_wp2_with fail
        refine S4.mono ?_
        rintro e v4 ⟨rfl, rfl⟩
        go_wp2
        go_ret
        exact ⟨rfl, HW.out.2.2.2⟩

set_option maxRecDepth 100000 in
theorem lifted (os : Os) (started : os.Started) (H : Type) (enc : TypeId × Value → H) :
    ReturnsInHanded {} Tryd.checked os 7 .any (fun w args => (Rows.macTurnsSpec.pre enc Tryd.prog Tryd.f7 [] false w args ∧ laidMetH Tryd.prog laid2 w) ∧ sizedMet enc Tryd.prog Tryd.f7 (OpenSpec.ofChange Rows.macTurnsSpec) false w args)
      (Rows.macTurnsSpec.post enc Tryd.prog Tryd.f7 false true false false) := by
  refine returnsInHanded_of_change_and (C := Tryd.checked) (X := fun w _ => laidMetH Tryd.prog laid2 w) (fun _ _ _ hh h => h.of_heap hh) own started (by kernel_rfl) Tryd.func7
    (ChangeSpec.witness_shaped (enc := enc) (C := Tryd.checked) (os := os) (X := fun w _ => laidMetH Tryd.prog laid2 w) false (World.doorLaid Tryd.prog 400 os) #[.slice none 0 0, .slice none 0 0, .int .i64 0, .int .u8 0] 8 rfl (World.shaped_of_RefB (by kernel_rfl) (by kernel_rfl)) (by kernel_rfl) (by kernel_rfl) (by kernel_rfl) (door_met os _)) ?_
  intro W base args ds gs before hval0 hW hcnd _ hL _
  have hval : ∀ (j : Nat) t v, Tryd.f7.params[j]? = some t → args[j]? = some v → Value.okWide Tryd.prog W .any base t v := hval0
  have hW' := hW
  obtain ⟨p, q, hA0, hV, rfl, hfz, hnd⟩ := hW
  have hA : DataW.TrodAll enc Tryd.prog W 0 (fun _ => true) true Tryd.f7.params.toList args.toList ds p := hA0
  rw [Tryd.params7] at hA hval
  obtain ⟨v0, vs0, d0, ds0, p0, q0, hargs, rfl, rfl, h0, r0⟩ := trodAll_cons hA
  obtain ⟨v1, vs1, d1, ds1, p1, q1, rfl, rfl, rfl, h1, r1⟩ := trodAll_cons r0
  obtain ⟨v2, vs2, d2, ds2, p2, q2, rfl, rfl, rfl, h2, r2⟩ := trodAll_cons r1
  obtain ⟨v3, vs3, d3, ds3, p3, q3, rfl, rfl, rfl, h3, r3⟩ := trodAll_cons r2
  obtain ⟨rfl, rfl, rfl⟩ := trodAll_nil r3
  obtain rfl : args = #[v0, v1, v2, v3] := by cases args; simp_all
  obtain ⟨rfl, rfl⟩ := trodVars_none hV
  obtain ⟨a0, len0, cap0, rfl⟩ := okWide_slice Tryd.underlying22 (hval 0 22 v0 rfl rfl)
  have k0 := h0
  have lt0 : ∀ x ∈ p0, x.block < W.heap.size := by obtain ⟨m, hm⟩ := k0; exact DataW.trod_lt m _ _ _ hm
  obtain ⟨z0, w0⟩ : ∃ zs, IsRow .u8 W a0 len0 cap0 zs := by
    obtain ⟨fuel, hf⟩ := h0
    rcases open_ints Tryd.underlying22 Tryd.underlying5 (by kernel_rfl) hf with ⟨hcs, _⟩ | ⟨x, l, c, zs, hcs, _, hl, hm, hz, _, hcell, hwz⟩
    · simp [Value.cells] at hcs
      obtain ⟨rfl, rfl, rfl⟩ := hcs
      exact ⟨[], .inl ⟨rfl, rfl, rfl, rfl⟩⟩
    · simp [Value.cells] at hcs
      obtain ⟨rfl, rfl, rfl⟩ := hcs
      exact ⟨zs, .inr ⟨_, rfl, hl, hm, by simpa using hz, hcell, hwz⟩⟩
  obtain ⟨a1, len1, cap1, rfl⟩ := okWide_slice Tryd.underlying22 (hval 1 22 v1 rfl rfl)
  have k1 := h1
  have lt1 : ∀ x ∈ p1, x.block < W.heap.size := by obtain ⟨m, hm⟩ := k1; exact DataW.trod_lt m _ _ _ hm
  obtain ⟨z1, w1⟩ : ∃ zs, IsRow .u8 W a1 len1 cap1 zs := by
    obtain ⟨fuel, hf⟩ := h1
    rcases open_ints Tryd.underlying22 Tryd.underlying5 (by kernel_rfl) hf with ⟨hcs, _⟩ | ⟨x, l, c, zs, hcs, _, hl, hm, hz, _, hcell, hwz⟩
    · simp [Value.cells] at hcs
      obtain ⟨rfl, rfl, rfl⟩ := hcs
      exact ⟨[], .inl ⟨rfl, rfl, rfl, rfl⟩⟩
    · simp [Value.cells] at hcs
      obtain ⟨rfl, rfl, rfl⟩ := hcs
      exact ⟨zs, .inr ⟨_, rfl, hl, hm, by simpa using hz, hcell, hwz⟩⟩
  obtain ⟨a2, rfl, rfl, rfl, w2⟩ := open_int Tryd.underlying3 (hval 2 3 v2 rfl rfl) h2
  obtain ⟨a3, rfl, rfl, rfl, w3⟩ := open_int Tryd.underlying5 (hval 3 5 v3 rfl rfl) h3
  clear hA0 hval0
  refine (walk a0 len0 cap0 z0 a1 len1 cap1 z1 a2 a3 W (of_laid hL) w0 w1 w2 w3).mono fun e W' ⟨he, bel⟩ => ?_
  subst he
  exact ⟨_, rfl, _, _, _, [], _, [], hW', trodAll_mk1 (shut_bool Tryd.underlying4 _), (trodAll_cons_mk (Below.trod laidOut (by kernel_rfl) (of_decide_eq_true (by kernel_rfl)) k0 bel lt0) (trodAll_cons_mk (Below.trod laidOut (by kernel_rfl) (of_decide_eq_true (by kernel_rfl)) k1 bel lt1) (trodAll_cons_mk (shut_int Tryd.underlying3 w2) (trodAll_cons_mk (shut_int Tryd.underlying5 w3) trodAll_mk0)))), rfl, bel.frame _, fun h => by cases h⟩

theorem over : Rows.macTurnsRow.holds Tryd.pinned (OpenSpec.ofChange Rows.macTurnsSpec) :=
  OpenClaim.holds_of_wide 7 Tryd.f7 rfl rfl rfl rfl rfl rfl rfl ⟨rfl, rfl, rfl, rfl, rfl⟩ rfl rfl rfl rfl rfl (by kernel_rfl) Tryd.func7 (by kernel_rfl)
    (of_decide_eq_true (by kernel_rfl)) (by unfold Func.isWrapper; first | (rw [if_pos (by decide +kernel)]; kernel_rfl) | (rw [if_neg (by decide +kernel)]; exact ⟨rfl, rfl⟩))
    (fun os started H enc _ => lifted os started H enc)

theorem said : Rows.MacTurnsSaid := over
end Go.Proofs.YtakbnecmaccieaaDoor.macTurns
namespace Go.Proofs.YtakbnecmaccieaaDoor
/-- The tied card. -/
theorem macTurns_card : Rows.MacTurnsCardSaid :=
  Claim7.holds_tied_plain_at .later [] [.data, .data] true (true, "ec37803ce0c76b2e91dc930df1b1b4d433909658e8f2fe1d19451ce5ea3400a0") false
    macTurns.said (fun _ h => by cases h) (by kernel_rfl) (fun _ h => by cases h) macTurns_row_tie rfl ⟨rfl, rfl⟩ (by kernel_rfl) rfl
    (fun f fn hf hfn => by
      obtain rfl : f = 7 := Option.some.inj ((show Tryd.prog.funcNamed "coaming/coaminglaw03.MacTurns" = some 7 by kernel_rfl).symm.trans hf) |>.symm
      obtain rfl : fn = Tryd.f7 := (Option.some.inj (Tryd.func7.symm.trans hfn)).symm
      exact ⟨by kernel_rfl, fun j t ht => by
        rw [Tryd.params7] at ht
        have hm : t ∈ [22,22,3,5] := by simpa using Array.mem_of_getElem? ht
        have hall : ([22,22,3,5].all fun u => !Tryd.prog.wantsStandIn u) = true := by kernel_rfl
        exact (show Tryd.prog.wantsStandIn t = false by simpa using List.all_eq_true.1 hall t hm)⟩)
    (by kernel_rfl)
#print axioms macTurns_card
end Go.Proofs.YtakbnecmaccieaaDoor
