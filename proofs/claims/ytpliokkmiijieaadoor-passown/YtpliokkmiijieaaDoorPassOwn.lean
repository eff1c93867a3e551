/- For every key, token, number and list of numbers that can be handed in the law PassOwn returns true, and the lists read as they did. -/
import Derived.Test.YtpliokkmiijieaaDoorRows
import Derived.Test.YtpliokkmiijieaaDoorCards
import Derived.Test.YtpliokkmiijieaaDoorTie
import Derived.Test.YtpliokkmiijieaaDoorLaid
import Derived.Test.YtpliokkmiijieaaDoorPOpen
import Derived.Test.YtpliokkmiijieaaDoorPKnown
import Derived.BigQuiet
import Derived.Stop.Joined
import Derived.SevenTiedAt
import Derived.WalkKit
import Derived.ProofKit
import Derived.OpenShut
import Derived.ShutString
import Derived.ChangeOld
import Derived.Below
namespace Go.Proofs.YtpliokkmiijieaaDoor.passOwn
open Go.ChangeShapes Go.WideShapes Go.ChangeAt Go.RowKit
open Go.ChangeMaps (open_string shut_string)
set_option linter.unusedVariables false
set_option maxRecDepth 4000

theorem map_lower {lo lo' : Nat} {w : World} {b n : Nat} {ts : List Ten} (h : MapIn lo w b n ts) (hl : lo' ≤ lo) : MapIn lo' w b n ts := by
  obtain ⟨D, hown, hall⟩ := h
  refine ⟨D, hown, fun id hid => ⟨(hall id hid).1, fun t ht => ?_⟩⟩
  obtain ⟨h1, L, h2, h3⟩ := (hall id hid).2 t ht
  exact ⟨h1, L, h2, h3.lower hl⟩
set_option maxHeartbeats 2000000 in
theorem walk (a0 : Option Addr) (n0 c0 : Nat) (z0 : List Int) (t1 : Tok) (a2 : Int) (a3 : Option Addr) (n3 c3 : Nat) (z3 : List Int) (w : World) (hG : GIn w) (w0 : BIn w a0 n0 z0 ∧ n0 ≤ c0 ∧ (a0 = none → n0 = 0 ∧ c0 = 0)) (w1 : t1.Fits) (w2 : (Lit.int .u64 a2).wf = true) (w3 : UIn w a3 n3 z3 ∧ n3 ≤ c3 ∧ (a3 = none → n3 = 0 ∧ c3 = 0)) :
    Calls Tryd.prog 6 #[.slice a0 n0 c0, tokV t1, .int .u64 a2, .slice a3 n3 c3] w fun e w' => e = .returned (.bool true) ∧ Below w.heap.size w w' := by
  obtain ⟨q, hq⟩ : ∃ q, q = w.heap.size := ⟨_, rfl⟩
  have z20 := bounds_u64 w2
  obtain ⟨s0, s1⟩ := z20
  have H : Hid (q = w.heap.size ∧ GIn w ∧ (BIn w a0 n0 z0 ∧ n0 ≤ c0 ∧ (a0 = none → n0 = 0 ∧ c0 = 0)) ∧ t1.Fits ∧ (UIn w a3 n3 z3 ∧ n3 ≤ c3 ∧ (a3 = none → n3 = 0 ∧ c3 = 0))) := ⟨hq, hG, w0, w1, w3⟩
  rw [← hq]
  have et : tokV t1 = .agg #[.int .u32 t1.tenant, .int .u32 t1.serial, .bool t1.ro, .int .u64 t1.size] := rfl
  rw [et]
  clear hG w0 w1 w2 w3 et
  by_cases hout : (400 : Int) < n0 ∨ n0 = 0 ∨ (50 : Int) < n3
  · go_enter Tryd.func6, Tryd.ntmps6
    go_upto_region 1 with fail
    generalize hV : World.alloc w _ = V
    rw [← hq]
    have HV : Hid (Below q w V ∧ GIn V ∧ q ≤ V.heap.size) := by
      rw [← hV]
      exact ⟨(Below.refl _ _).alloc (by omega) _, H.out.2.1.alloc _, by simp; omega⟩
    clear hV hq
    have K := pknown_any V HV.out.2.1
    have fin : ∀ X, Below V.heap.size V X → Below q w X := fun X bX => HV.out.1.trans (bX.mono HV.out.2.2)
    by_cases h0 : (400 : Int) < n0
    · go_wp2_with (go_at_call 9; refine K.mono ?_; rintro e X ⟨rfl, bX⟩)
      go_ret
      exact ⟨rfl, fin X bX⟩
    · have h0' : (n0 : Int) ≤ 400 := by omega
      by_cases h1 : n0 = 0
      · subst h1
        go_wp2_with (go_at_call 9; refine K.mono ?_; rintro e X ⟨rfl, bX⟩)
        go_ret
        exact ⟨rfl, fin X bX⟩
      · have h1' : ¬ (n0 : Int) = 0 := by omega
        have h2 : (50 : Int) < n3 := by omega
        go_wp2_with (go_at_call 9; refine K.mono ?_; rintro e X ⟨rfl, bX⟩)
        go_ret
        exact ⟨rfl, fin X bX⟩
  · have h0 : (n0 : Int) ≤ 400 := by omega
    have h1 : ¬ (n0 : Int) = 0 := by omega
    have h2 : (n3 : Int) ≤ 50 := by omega
    have hb0 : decide ((400 : Int) < n0) = false := by simpa using h0
    have hb1 : ((n0 : Int) == 0) = false := by simpa using h1
    have hb2 : decide ((50 : Int) < n3) = false := by simpa using h2
    clear hout
    go_enter Tryd.func6, Tryd.ntmps6
    go_upto_region 1 with fail
    generalize hV : World.alloc w _ = V
    rw [← hq]
    have HV : Hid (Below q w V ∧ GIn V ∧ q < V.heap.size ∧ Blk V q (tokL t1) 26) := by
      rw [← hV]
      exact ⟨(Below.refl _ _).alloc (by omega) _, H.out.2.1.alloc _, by simp; omega, Blk.new' (L := tokL t1) hq.symm rfl⟩
    clear hV hq
    go_upto_region 3 with (go_at_call 9; refine (pknown_any V HV.out.2.1).mono ?_; rintro e w1 ⟨rfl, b1⟩)
    have H1 : Hid (Below q w w1 ∧ GIn w1 ∧ q < w1.heap.size ∧ Blk w1 q (tokL t1) 26 ∧ BIn w1 a0 n0 z0 ∧ UIn w1 a3 n3 z3) := by
      have bq : Below q w w1 := HV.out.1.trans (b1.mono (by have := HV.out.2.2.1; omega))
      have bw : Below w.heap.size w w1 := by rw [← H.out.1]; exact bq
      exact ⟨bq, H.out.2.1.below bw H.out.2.1.lt, by have := b1.size; have := HV.out.2.2.1; omega, HV.out.2.2.2.below b1 HV.out.2.2.1, H.out.2.2.1.1.below bw, H.out.2.2.2.2.1.keeps (Lo.zero _) (Keeps.of_below bw)⟩
    clear b1 HV
    have k0 : w1.cell? ⟨q, 0, none⟩ = some (.int .u32 t1.tenant) := H1.out.2.2.2.1.cell 0
    go_upto_region 4 with fail
    obtain ⟨T, hT⟩ : ∃ T : Ten, T = ⟨t1.tenant, z0, 0, a2, z3⟩ := ⟨_, rfl⟩
    have HTf : Hid (T = ⟨t1.tenant, z0, 0, a2, z3⟩ ∧ T.Fits ∧ Small T ∧ newE [T] = 0) := by
      refine ⟨hT, ?_, ?_, ?_⟩
      · rw [hT]; exact ⟨H.out.2.2.2.1.1, by dsimp only; omega, by dsimp only; omega⟩
      · rw [hT]; exact ⟨by dsimp only; rw [H.out.2.2.1.1.1]; omega, by dsimp only; rw [H.out.2.2.2.2.1.1]; omega⟩
      · unfold newE
        rw [if_neg (by simp), if_pos]
        refine ⟨fun t ht => ?_, by simp⟩
        simp only [List.mem_cons, List.not_mem_nil, or_false] at ht
        rw [ht, hT]
        dsimp only
        intro e
        have := H.out.2.2.1.1.1
        rw [e] at this
        simp at this
        omega
    have hsm : ∀ t ∈ [T], Small t := by intro t ht; simp only [List.mem_cons, List.not_mem_nil, or_false] at ht; rw [ht]; exact HTf.out.2.2.1
    have hts : TsIn 0 (w1.alloc (.cells #[.int .u32 t1.tenant, .slice a0 n0 c0, .int .u64 0, .int .u64 a2, .slice a3 n3 c3] 49)) (some ⟨w1.heap.size, 0, none⟩) 1 [T] :=
      one_ts (L := tenL ⟨t1.tenant, z0, 0, a2, z3⟩ a0 n0 c0 a3 n3 c3) rfl (by rw [hT]; exact ⟨a0, n0, c0, a3, n3, c3, rfl, ⟨H1.out.2.2.2.2.1, H.out.2.2.1.2.1, H.out.2.2.1.2.2, Lo.zero _⟩, ⟨H1.out.2.2.2.2.2, H.out.2.2.2.2.2.1, H.out.2.2.2.2.2.2, Lo.zero _⟩, by have := HTf.out.2.1; rw [hT] at this; exact this⟩) (Nat.zero_le _)
    refine (passNew_of 0 (some ⟨w1.heap.size, 0, none⟩) 1 1 [T] _ hts (by omega) hsm).mono ?_
    clear hts k0 hT
    rintro e w3 ⟨b3, (⟨-, p, rfl, hTab⟩ | ⟨hbad, -⟩)⟩
    · have H3 : Hid (Below q w w3 ∧ GIn w3 ∧ q < w3.heap.size ∧ Blk w3 q (tokL t1) 26 ∧ BIn w3 a0 n0 z0 ∧ UIn w3 a3 n3 z3 ∧ TabIn 0 w3 p [T]) := by
        have bu : Below w1.heap.size w1 w3 := ((Below.refl _ _).alloc (Nat.le_refl _) _).trans (b3.mono (by simp))
        have h2 := H1.out.2.2.1
        obtain ⟨g, b, n, hp, _, _, h3, h4⟩ := hTab
        refine ⟨H1.out.1.trans (bu.mono (by omega)), H1.out.2.1.below bu H1.out.2.1.lt, by have := bu.size; omega, H1.out.2.2.2.1.below bu h2, H1.out.2.2.2.2.1.below bu, H1.out.2.2.2.2.2.keeps (Lo.zero _) (Keeps.of_below bu), g, b, n, hp, Nat.zero_le _, Nat.zero_le _, h3, ?_⟩
        exact map_lower h4 (Nat.zero_le _)
      have k3 := H3.out.2.2.2.1
      have IS := passIssue_of a0 n0 c0 z0 t1 w3 H3.out.2.1 H3.out.2.2.2.2.1 (by omega) H.out.2.2.1.2.1 H.out.2.2.2.1
      obtain ⟨cs, hcs⟩ : ∃ cs, cs = issueI z0 t1 := ⟨_, rfl⟩
      obtain ⟨s, hs⟩ : ∃ s, s = strOfNums cs := ⟨_, rfl⟩
      rw [← hcs, ← hs] at IS
      have hg := issue_good z0 H.out.2.2.2.1
      rw [← hcs] at hg
      have LK := fun w => passLook_of s cs 80 w hs (by rw [hcs]; exact issueI_fits _ _) (by rw [hcs]; exact issueI_length _ _) (by omega)
      have hLE : lookE cs = 0 := by unfold lookE; rw [if_pos hg.1]
      rw [hg.2.2.2, hLE] at LK
      have CK := fun w h hG => check_of 0 p [T] s cs 80 w h hG hs (by rw [hcs]; exact issueI_fits _ _) (by rw [hcs]; exact issueI_length _ _) (by omega) hsm
      have hck : checkI [T] cs = if refE T t1 = 0 then (t1, 0) else (tok0, refE T t1) := by
        unfold checkI
        rw [if_pos hg.1, hg.2.2.2]
        have hf : findT [T] t1.tenant = some T := by unfold findT; rw [HTf.out.1]; simp
        rw [hf, check_is, hg.2.1, hg.2.2.1, hg.2.2.2, if_neg]
        intro h
        apply h
        rw [HTf.out.1]
      obtain ⟨R1, R2, hR⟩ : ∃ R1 R2, checkI [T] cs = (R1, R2) := ⟨_, _, rfl⟩
      rw [hR] at CK
      dsimp only at CK
      have HR : Hid ((R1, R2) = if refE T t1 = 0 then (t1, 0) else (tok0, refE T t1)) := by show (R1, R2) = _; rw [← hR]; exact hck
      clear hck hR hcs hs hg hLE b3 hTab H1 hsm
      go_upto_region 7 with (first
        | (refine wpList_load_mid rfl 26 (.tmp 5) rfl q 0 rfl _ _ k3.whole Tryd.underlying26 rfl Tryd.info_token ?_)
        | (go_at_call 10; refine IS.mono ?_; rintro e w4 ⟨rfl, b4⟩))
      go_upto_region 8 with (first
        | (go_at_call 12; refine (LK w4).mono ?_; rintro e w5 ⟨rfl, b5⟩)
        | (refine wpList_store_mid rfl 26 (.tmp 12) (.tmp 55) rfl w5.heap.size 0 (tokL t1).toArray rfl rfl ?hT (tok_size _) (tok_all _) ?_; (case hT => exact tok_there _)))
      generalize hU : World.setCells _ _ _ _ = U
      obtain ⟨g, hg⟩ : ∃ g, g = w5.heap.size := ⟨_, rfl⟩
      rw [← hg]
      have HU : Hid (Below q w U ∧ GIn U ∧ q < U.heap.size ∧ Blk U q (tokL t1) 26 ∧ UIn U a3 n3 z3 ∧ TabIn 0 U p [T] ∧ Blk U g (tokL t1) 26) := by
        have h1 := b4.size
        have h2 := b5.size
        have h3 := H3.out.2.2.1
        have bk : Blk U g (tokL t1) 26 := by rw [← hU, hg]; exact (Blk.new' (L := tokL tok0) rfl rfl).setAll (by rfl)
        have bu : Below w5.heap.size w5 U := by rw [← hU]; exact below_setCells (Nat.le_refl _) _ _ _ ((Below.refl _ _).alloc (Nat.le_refl _) _)
        have bb : Below w3.heap.size w3 U := b4.trans ((b5.mono h1).trans (bu.mono (by omega)))
        exact ⟨H3.out.1.trans (bb.mono (by omega)), H3.out.2.1.below bb H3.out.2.1.lt, by have := bb.size; omega, H3.out.2.2.2.1.below bb h3, H3.out.2.2.2.2.2.1.keeps (Lo.zero _) (Keeps.of_below bb), H3.out.2.2.2.2.2.2.below bb, bk⟩
      have CU := CK U HU.out.2.2.2.2.2.1 HU.out.2.1
      clear hU hg b4 b5 IS LK CK H3 k3
      go_upto_region 9 with (first
        | (go_at_call 18; refine CU.mono ?_; rintro e w6 ⟨rfl, b6⟩)
        | (refine wpList_store_mid rfl 26 (.tmp 14) (.tmp 61) rfl w6.heap.size 0 (tokL R1).toArray rfl rfl ?hT (tok_size _) (tok_all _) ?_; (case hT => exact tok_there _)))
      generalize hX : World.setCells _ _ _ _ = X
      obtain ⟨g14, hg14⟩ : ∃ g14, g14 = w6.heap.size := ⟨_, rfl⟩
      rw [← hg14]
      have HX : Hid (Below q w X ∧ Blk X q (tokL t1) 26 ∧ UIn X a3 n3 z3 ∧ Blk X g (tokL t1) 26 ∧ Blk X g14 (tokL R1) 26) := by
        have h1 := b6.size
        have h3 := HU.out.2.2.1
        have bk : Blk X g14 (tokL R1) 26 := by rw [← hX, hg14]; exact (Blk.new' (L := tokL tok0) rfl rfl).setAll (by rfl)
        have bx : Below w6.heap.size w6 X := by rw [← hX]; exact below_setCells (Nat.le_refl _) _ _ _ ((Below.refl _ _).alloc (Nat.le_refl _) _)
        have bb : Below U.heap.size U X := b6.trans (bx.mono h1)
        exact ⟨HU.out.1.trans (bb.mono (by omega)), HU.out.2.2.2.1.below bb h3, HU.out.2.2.2.2.1.keeps (Lo.zero _) (Keeps.of_below bb), HU.out.2.2.2.2.2.2.below bb HU.out.2.2.2.2.2.2.lt, bk⟩
      clear hX hg14 b6 CU HU
      have k1 : X.cell? ⟨q, 1, none⟩ = some (.int .u32 t1.serial) := HX.out.2.1.cell 1
      go_wp2
      go_loopw [16, 17] (fun r i wr => ∃ (k d : Nat), k ≤ n3 ∧ i = .int .i64 k ∧ r = .bool (decide (t1.serial ∈ z3.take k)) ∧ wr = X.drewN d)
        (fun _ i _ => n3 - (intOf i).toNat)
      case atStart => exact ⟨0, 0, by omega, rfl, rfl, rfl⟩
      case round =>
        obtain ⟨k, d, hk, rfl, rfl, rfl⟩ := hrel
        by_cases hlt : k < n3
        · have hlt' : (k : Int) < n3 := by omega
          obtain ⟨b, off, ha, hcell⟩ := HX.out.2.2.1.2.2.2.resolve_left (by omega)
          subst ha
          have hc := hcell k hlt
          have hl : k < z3.length := by rw [HX.out.2.2.1.1]; exact hlt
          obtain ⟨x, ex⟩ : ∃ x, x = z3.getD k 0 := ⟨_, rfl⟩
          rw [← ex] at hc
          have HN : Hid (t1.serial ∈ z3.take (k + 1) ↔ t1.serial ∈ z3.take k ∨ x = t1.serial) := by
            show _ ↔ _
            rw [List.take_succ_eq_append_getElem hl, List.mem_append, List.mem_singleton, ex]
            simp only [List.getD, List.getElem?_eq_getElem hl, Option.getD_some]
            constructor
            · rintro (h | h)
              · exact .inl h
              · exact .inr h.symm
            · rintro (h | h)
              · exact .inl h
              · exact .inr h.symm
          clear hcell ex hl
          by_cases hin : t1.serial ∈ z3.take k
          · have hd : decide (t1.serial ∈ z3.take k) = true := by simpa using hin
            rw [hd]
            have HS : Hid (t1.serial ∈ z3.take k) := hin
            clear hd hin
            go_wp2
            go_quiet (fail)
            go_wp2
            go_roundw
            case rel => exact ⟨k + 1, _, by omega, by go_num, by rw [decide_eq_true (HN.out.2 (.inl HS.out))], rfl⟩
            case measure => simp [intOf]; omega
          · have hd : decide (t1.serial ∈ z3.take k) = false := by simpa using hin
            rw [hd]
            have HS : Hid (¬ t1.serial ∈ z3.take k) := hin
            clear hd hin
            go_wp2
            go_quiet (fail)
            go_wp2
            go_roundw
            case rel =>
              refine ⟨k + 1, _, by omega, by go_num, ?_, rfl⟩
              congr 1
              by_cases hx : x = t1.serial
              · rw [decide_eq_true (HN.out.2 (.inr hx))]; simpa using hx
              · rw [decide_eq_false (fun h => (HN.out.1 h).elim HS.out hx)]; simpa using hx
            case measure => simp [intOf]; omega
        · have hge : (n3 : Int) ≤ k := by omega
          have e : z3.take k = z3 := List.take_of_length_le (by rw [HX.out.2.2.1.1]; omega)
          rw [e]
          clear e
          have hE : refE T t1 = if t1.serial ∈ z3 then 53 else if t1.size = 0 ∨ a2 < t1.size then 54 else 0 := by unfold refE; rw [HTf.out.1]
          have y0 : X.cell? ⟨q, 0, none⟩ = some (.int .u32 t1.tenant) := HX.out.2.1.cell 0
          have y2 : X.cell? ⟨q, 2, none⟩ = some (.bool t1.ro) := HX.out.2.1.cell 2
          have y3 : X.cell? ⟨q, 3, none⟩ = some (.int .u64 t1.size) := HX.out.2.1.cell 3
          have v0 : X.cell? ⟨g, 0, none⟩ = some (.int .u32 t1.tenant) := HX.out.2.2.2.1.cell 0
          have v1 : X.cell? ⟨g, 1, none⟩ = some (.int .u32 t1.serial) := HX.out.2.2.2.1.cell 1
          have v2 : X.cell? ⟨g, 2, none⟩ = some (.bool t1.ro) := HX.out.2.2.2.1.cell 2
          have v3 : X.cell? ⟨g, 3, none⟩ = some (.int .u64 t1.size) := HX.out.2.2.2.1.cell 3
          have hR := HR.out
          rw [hE] at hR
          clear HR hE
          by_cases hin : t1.serial ∈ z3
          · rw [if_pos hin, if_neg (by decide)] at hR
            obtain ⟨rfl, rfl⟩ : R1 = tok0 ∧ R2 = 53 := by simpa using hR
            have hd : decide (t1.serial ∈ z3) = true := by simpa using hin
            rw [hd]
            clear hd hin hR
            go_wp2
            go_ret
            exact ⟨rfl, below_drewN HX.out.1 _⟩
          · rw [if_neg hin] at hR
            have hd : decide (t1.serial ∈ z3) = false := by simpa using hin
            rw [hd]
            clear hd hin
            obtain ⟨Z, hZ⟩ : ∃ Z, Z = t1.size := ⟨_, rfl⟩
            have hZ0 : 0 ≤ Z := by rw [hZ]; exact H.out.2.2.2.1.2.2.1
            have hZ1 : Z < 18446744073709551616 := by rw [hZ]; exact H.out.2.2.2.1.2.2.2
            by_cases hbad : t1.size = 0 ∨ a2 < t1.size
            · rw [if_pos hbad, if_neg (by decide)] at hR
              obtain ⟨rfl, rfl⟩ : R1 = tok0 ∧ R2 = 54 := by simpa using hR
              rw [← hZ] at hbad y3 v3
              clear hR hZ
              by_cases hz : Z = 0
              · subst hz
                go_wp2
                go_ret
                exact ⟨rfl, below_drewN HX.out.1 _⟩
              · have hz2 : a2 < Z := by omega
                have hz3 : (Z == 0) = false := by simpa using hz
                go_wp2
                all_goals first
                  | (exfalso; simp_all; done)
                  | (go_ret; exact ⟨rfl, below_drewN HX.out.1 _⟩)
            · rw [if_neg hbad, if_pos rfl] at hR
              obtain ⟨rfl, rfl⟩ : R1 = t1 ∧ R2 = 0 := by simpa using hR
              have u0 : X.cell? ⟨g14, 0, none⟩ = some (.int .u32 R1.tenant) := HX.out.2.2.2.2.cell 0
              have u1 : X.cell? ⟨g14, 1, none⟩ = some (.int .u32 R1.serial) := HX.out.2.2.2.2.cell 1
              have u2 : X.cell? ⟨g14, 2, none⟩ = some (.bool R1.ro) := HX.out.2.2.2.2.cell 2
              have u3 : X.cell? ⟨g14, 3, none⟩ = some (.int .u64 R1.size) := HX.out.2.2.2.2.cell 3
              rw [← hZ] at hbad y3 v3 u3
              have hz3 : (Z == 0) = false := by simp; omega
              have hz4 : decide (a2 < Z) = false := by simp; omega
              clear hR hZ
              go_wp2
              all_goals first
                | (exfalso; simp_all; done)
                | (go_ret; exact ⟨rfl, below_drewN HX.out.1 _⟩)
    · exact absurd HTf.out.2.2.2 hbad

set_option maxRecDepth 100000 in
theorem lifted (os : Os) (started : os.Started) (H : Type) (enc : TypeId × Value → H) :
    ReturnsInHanded {} Tryd.checked os 6 .any (fun w args => (Rows.passOwnSpec.pre enc Tryd.prog Tryd.f6 [] false w args ∧ laidMetH Tryd.prog laid2 w) ∧ sizedMet enc Tryd.prog Tryd.f6 (OpenSpec.ofChange Rows.passOwnSpec) false w args)
      (Rows.passOwnSpec.post enc Tryd.prog Tryd.f6 false true false false) := by
  refine returnsInHanded_of_change_and (C := Tryd.checked) (X := fun w _ => laidMetH Tryd.prog laid2 w) (fun _ _ _ hh h => h.of_heap hh) own started (by kernel_rfl) Tryd.func6
    (ChangeSpec.witness_shaped (enc := enc) (C := Tryd.checked) (os := os) (X := fun w _ => laidMetH Tryd.prog laid2 w) false (World.doorLaid Tryd.prog 400 os) #[.slice none 0 0, .agg #[.int .u32 0, .int .u32 0, .bool false, .int .u64 0], .int .u64 0, .slice none 0 0] 8 rfl (World.shaped_of_RefB (by kernel_rfl) (by kernel_rfl)) (by kernel_rfl) (by kernel_rfl) (by kernel_rfl) (door_met os _)) ?_
  intro W base args ds gs before hval0 hW hcnd _ hL _
  have hval : ∀ (j : Nat) t v, Tryd.f6.params[j]? = some t → args[j]? = some v → Value.okWide Tryd.prog W .any base t v := hval0
  have hW' := hW
  obtain ⟨p, q, hA0, hV, rfl, hfz, hnd⟩ := hW
  have hA : DataW.TrodAll enc Tryd.prog W 0 (fun _ => true) true Tryd.f6.params.toList args.toList ds p := hA0
  rw [Tryd.params6] at hA hval
  obtain ⟨v0, vs0, d0, ds0, p0, q0, hargs, rfl, rfl, h0, r0⟩ := trodAll_cons hA
  obtain ⟨v1, vs1, d1, ds1, p1, q1, rfl, rfl, rfl, h1, r1⟩ := trodAll_cons r0
  obtain ⟨v2, vs2, d2, ds2, p2, q2, rfl, rfl, rfl, h2, r2⟩ := trodAll_cons r1
  obtain ⟨v3, vs3, d3, ds3, p3, q3, rfl, rfl, rfl, h3, r3⟩ := trodAll_cons r2
  obtain ⟨rfl, rfl, rfl⟩ := trodAll_nil r3
  obtain rfl : args = #[v0, v1, v2, v3] := by cases args; simp_all
  obtain ⟨rfl, rfl⟩ := trodVars_none hV
  obtain ⟨a0, n0, c0, rfl⟩ := okWide_slice Tryd.underlying22 (hval 0 22 v0 rfl rfl)
  have k0 := h0
  have lt0 : ∀ x ∈ p0, x.block < W.heap.size := by obtain ⟨m, hm⟩ := k0; exact DataW.trod_lt m _ _ _ hm
  obtain ⟨z0, w0⟩ := open_bytes h0
  have k1 := h1
  have lt1 : ∀ x ∈ p1, x.block < W.heap.size := by obtain ⟨m, hm⟩ := k1; exact DataW.trod_lt m _ _ _ hm
  obtain ⟨t1, rfl, w1⟩ := open_token (hval 1 26 v1 rfl rfl) h1
  obtain ⟨a2, rfl, rfl, rfl, w2⟩ := open_int Tryd.underlying24 (hval 2 24 v2 rfl rfl) h2
  obtain ⟨a3, n3, c3, rfl⟩ := okWide_slice Tryd.underlying47 (hval 3 47 v3 rfl rfl)
  have k3 := h3
  have lt3 : ∀ x ∈ p3, x.block < W.heap.size := by obtain ⟨m, hm⟩ := k3; exact DataW.trod_lt m _ _ _ hm
  obtain ⟨z3, w3⟩ := open_words h3
  clear hA0 hval0
  refine (walk a0 n0 c0 z0 t1 a2 a3 n3 c3 z3 W (of_laid hL) w0 w1 w2 w3).mono fun e W' ⟨he, bel⟩ => ?_
  subst he
  exact ⟨_, rfl, _, _, _, [], _, [], hW', trodAll_mk1 (shut_bool Tryd.underlying4 _), (trodAll_cons_mk (Below.trod laidOut (by kernel_rfl) (of_decide_eq_true (by kernel_rfl)) k0 bel lt0) (trodAll_cons_mk (Below.trod laidOut (by kernel_rfl) (of_decide_eq_true (by kernel_rfl)) k1 bel lt1) (trodAll_cons_mk (shut_int Tryd.underlying24 w2) (trodAll_cons_mk (Below.trod laidOut (by kernel_rfl) (of_decide_eq_true (by kernel_rfl)) k3 bel lt3) trodAll_mk0)))), rfl, bel.frame _, fun h => by cases h⟩

theorem over : Rows.passOwnRow.holds Tryd.pinned (OpenSpec.ofChange Rows.passOwnSpec) :=
  OpenClaim.holds_of_wide 6 Tryd.f6 rfl rfl rfl rfl rfl rfl rfl ⟨rfl, rfl, rfl, rfl, rfl⟩ rfl rfl rfl rfl rfl (by kernel_rfl) Tryd.func6 (by kernel_rfl)
    (of_decide_eq_true (by kernel_rfl)) (by unfold Func.isWrapper; first | (rw [if_pos (by decide +kernel)]; kernel_rfl) | (rw [if_neg (by decide +kernel)]; exact ⟨rfl, rfl⟩))
    (fun os started H enc _ => lifted os started H enc)

theorem said : Rows.PassOwnSaid := over
end Go.Proofs.YtpliokkmiijieaaDoor.passOwn
namespace Go.Proofs.YtpliokkmiijieaaDoor
/-- The tied card. -/
theorem passOwn_card : Rows.PassOwnCardSaid :=
  Claim7.holds_tied_plain_at .later [] [.data, .data] true (true, "174549403fd69341d97145101e0688a2ff013689e5871de57477a2bae9234ed5") false
    passOwn.said (fun _ h => by cases h) (by kernel_rfl) (fun _ h => by cases h) passOwn_row_tie rfl ⟨rfl, rfl⟩ (by kernel_rfl) rfl
    (fun f fn hf hfn => by
      obtain rfl : f = 6 := Option.some.inj ((show Tryd.prog.funcNamed "coaming/coaminglaw05.PassOwn" = some 6 by kernel_rfl).symm.trans hf) |>.symm
      obtain rfl : fn = Tryd.f6 := (Option.some.inj (Tryd.func6.symm.trans hfn)).symm
      exact ⟨by kernel_rfl, fun j t ht => by
        rw [Tryd.params6] at ht
        have hm : t ∈ [22,26,24,47] := by simpa using Array.mem_of_getElem? ht
        have hall : ([22,26,24,47].all fun u => !Tryd.prog.wantsStandIn u) = true := by kernel_rfl
        exact (show Tryd.prog.wantsStandIn t = false by simpa using List.all_eq_true.1 hall t hm)⟩)
    (by kernel_rfl)
#print axioms passOwn_card
end Go.Proofs.YtpliokkmiijieaaDoor
