/- For every list of tenants that can be handed in the law PassNew returns true, and the list reads as it did. -/
import Derived.Test.YtpliokkmiijieabDoorRows
import Derived.Test.YtpliokkmiijieabDoorCards
import Derived.Test.YtpliokkmiijieabDoorTie
import Derived.Test.YtpliokkmiijieabDoorLaid
import Derived.Test.YtpliokkmiijieabDoorPOpen
import Derived.Test.YtpliokkmiijieabDoorPLaw
import Derived.Lib.QuietBelow
import Derived.BigQuiet
import Derived.Stop.Joined
import Derived.SevenTiedAt
import Derived.WalkKit
import Derived.ProofKit
import Derived.OpenShut
import Derived.ShutString
import Derived.ChangeOld
import Derived.Below
namespace Go.Proofs.YtpliokkmiijieabDoor.passNew
open Go.ChangeShapes Go.WideShapes Go.ChangeAt Go.RowKit
open Go.ChangeMaps (open_string shut_string)
set_option linter.unusedVariables false
set_option maxRecDepth 4000

open Go.Sort
theorem tab_find : ∀ {ts : List Ten} {i : Nat} {t : Ten}, TabOk ts → ts[i]? = some t → findT ts t.id = some t
  | [], i, t, _, ht => by simp at ht
  | x :: r, 0, t, _, ht => by
    simp at ht
    subst ht
    unfold findT
    simp
  | x :: r, i + 1, t, h, ht => by
    have ht' : r[i]? = some t := by simpa using ht
    have hr : TabOk r := ⟨fun y hy => h.1 y (by simp [hy]), (List.pairwise_cons.1 h.2).2⟩
    have hne : x.id ≠ t.id := (List.pairwise_cons.1 h.2).1 t (List.mem_of_getElem? ht')
    have ih := tab_find hr ht'
    unfold findT at ih ⊢
    rw [List.find?_cons, decide_eq_false hne]
    exact ih
/-- What makes the first so many no table, one more looked at up to some place. -/
def BadP (ts : List Ten) (i j : Nat) : Prop := ¬ TabOk (ts.take i) ∨ ∃ t, ts[i]? = some t ∧ (t.key = [] ∨ ∃ t' ∈ ts.take j, t.id = t'.id)
theorem bad_next {ts : List Ten} {i : Nat} (hi : i < ts.length) : BadP ts i i ↔ ¬ TabOk (ts.take (i + 1)) := by
  obtain ⟨t, ht⟩ : ∃ t, ts[i]? = some t := ⟨_, List.getElem?_eq_getElem hi⟩
  constructor
  · rintro (h | ⟨t', ht', h⟩) hok
    · apply h
      rw [take_next ht] at hok
      exact ⟨fun x hx => hok.1 x (by simp [hx]), (List.pairwise_append.1 hok.2).1⟩
    · rw [ht] at ht'
      cases ht'
      rw [take_next ht] at hok
      rcases h with h | ⟨t'', hm, he⟩
      · exact hok.1 t (by simp) h
      · exact (List.pairwise_append.1 hok.2).2.2 t'' hm t (by simp) he.symm
  · intro h
    by_cases h1 : TabOk (ts.take i)
    · right
      refine ⟨t, ht, ?_⟩
      by_cases h2 : t.key = []
      · exact .inl h2
      · right
        cases hf : findT (ts.take i) t.id with
        | none => exact absurd (tabOk_next h1 ht hf h2) h
        | some t' => exact ⟨t', (find_mem hf).1, (find_mem hf).2.symm⟩
    · exact .inl h1
theorem bad_step {ts : List Ten} {i j : Nat} {t u : Ten} (ht : ts[i]? = some t) (hu : ts[j]? = some u) : BadP ts i (j + 1) ↔ BadP ts i j ∨ t.id = u.id := by
  unfold BadP
  rw [take_next hu]
  constructor
  · rintro (h | ⟨t', ht', h⟩)
    · exact .inl (.inl h)
    · rw [ht] at ht'
      cases ht'
      rcases h with h | ⟨t'', hm, he⟩
      · exact .inl (.inr ⟨t, ht, .inl h⟩)
      · rcases List.mem_append.1 hm with hm | hm
        · exact .inl (.inr ⟨t, ht, .inr ⟨t'', hm, he⟩⟩)
        · simp only [List.mem_cons, List.not_mem_nil, or_false] at hm
          subst hm
          exact .inr he
  · rintro ((h | ⟨t', ht', h⟩) | h)
    · exact .inl h
    · refine .inr ⟨t', ht', ?_⟩
      rcases h with h | ⟨t'', hm, he⟩
      · exact .inl h
      · exact .inr ⟨t'', by simp [hm], he⟩
    · exact .inr ⟨t, ht, .inr ⟨u, by simp, h⟩⟩
theorem bad_zero {ts : List Ten} {i : Nat} {t : Ten} (ht : ts[i]? = some t) : BadP ts i 0 ↔ ¬ TabOk (ts.take i) ∨ t.key = [] := by
  unfold BadP
  constructor
  · rintro (h | ⟨t', ht', h⟩)
    · exact .inl h
    · rw [ht] at ht'
      cases ht'
      rcases h with h | ⟨t'', hm, he⟩
      · exact .inr h
      · simp at hm
  · rintro (h | h)
    · exact .inl h
    · exact .inr ⟨t, ht, .inl h⟩
theorem same_grown {w : World} (L L' : List Value) (t : Ten) (h : TenIn 0 w L t) (h' : TenIn 0 w L' t) (hg : t.gone.length ≤ 1000) (d : Nat) (os : Array Obj) :
    Calls Tryd.prog 8 #[.agg L.toArray, .agg L'.toArray] (grow (redrawn w d) os) fun e w'' => e = .returned (.bool true) ∧ ∃ p : Regrown, w'' = grow (redrawn w p.d) p.os :=
  Calls.regrown_of (sameTenant_of 0 0 L L' t _ (h.below (below_regrown w d os)) (h'.below (below_regrown w d os)) hg)
set_option maxHeartbeats 4000000 in
theorem walk (a0 : Option Addr) (n0 c0 : Nat) (ts0 : List Ten) (w : World) (hG : GIn w) (w0 : TsIn 0 w a0 n0 ts0 ∧ n0 ≤ c0 ∧ (a0 = none → n0 = 0 ∧ c0 = 0)) :
    Calls Tryd.prog 3 #[.slice a0 n0 c0] w fun e w' => e = .returned (.bool true) ∧ Below w.heap.size w w' := by
  obtain ⟨q, hq⟩ : ∃ q, q = w.heap.size := ⟨_, rfl⟩
  have H : Hid (q = w.heap.size ∧ GIn w ∧ TsIn 0 w a0 n0 ts0) := ⟨hq, hG, w0.1⟩
  have TC := tenants_of 0 a0 n0 c0 ts0 w w0.1
  rw [← hq]
  clear hG w0 hq
  by_cases hfew : Few ts0
  · have hd : decide (Few ts0) = true := decide_eq_true hfew
    rw [hd] at TC
    have HF : Hid (Few ts0) := hfew
    have hn70 : n0 ≤ 70 := by rw [← H.out.2.2.1]; exact hfew.1
    clear hd hfew
    go_enter Tryd.func3, Tryd.ntmps3
    go_upto_region 2 with (go_at_call 4; refine TC.mono ?_; rintro e w ⟨rfl, rfl⟩)
    clear TC
    go_upto_region 4 with (go_at_call 5; refine (pknown_any _ H.out.2.1).mono ?_; rintro e w1 ⟨rfl, b1⟩)
    have H1 : Hid (Below q w w1 ∧ q ≤ w1.heap.size ∧ TsIn 0 w1 a0 n0 ts0) := ⟨by rw [H.out.1]; exact b1, by have := b1.size; have := H.out.1; omega, H.out.2.2.below b1⟩
    have NW := passNew_of 0 a0 n0 c0 ts0 w1 H1.out.2.2 (by omega) (fun t ht => ⟨by have := (HF.out.2 t ht).1; omega, by have := (HF.out.2 t ht).2; omega⟩)
    have NA := passNew_any 0 a0 n0 c0 ts0 w1 H1.out.2.2 (by omega) (fun t ht => ⟨by have := (HF.out.2 t ht).1; omega, by have := (HF.out.2 t ht).2; omega⟩)
    clear b1
    by_cases h64 : (64 : Int) < n0
    · have e3 : newE ts0 = 3 := by unfold newE; rw [if_pos (by rw [H.out.2.2.1]; omega)]
      rw [e3] at NW
      go_wp2_with (go_at_call 6; refine NW.mono ?_; rintro e w2 ⟨b2, (⟨h0, -⟩ | ⟨-, rfl⟩)⟩; (try (exact absurd h0 (by decide))))
      go_ret
      exact ⟨rfl, H1.out.1.trans (b2.mono H1.out.2.1)⟩
    · have h64' : (n0 : Int) ≤ 64 := by omega
      have HE : Hid (newE ts0 = if TabOk ts0 then 0 else 1) := by show _ = _; unfold newE; rw [if_neg (by rw [H.out.2.2.1]; omega)]
      go_upto_region 5 with (go_at_call 6; refine NA.mono ?_; rintro e w2 ⟨P, E, rfl, b2, hPE⟩)
      have H2 : Hid (Below q w w2 ∧ q ≤ w2.heap.size ∧ TsIn 0 w2 a0 n0 ts0 ∧ ((newE ts0 = 0 ∧ E = 0 ∧ TabIn w1.heap.size w2 P ts0) ∨ (newE ts0 ≠ 0 ∧ E = newE ts0 ∧ P = .pointer none))) := ⟨H1.out.1.trans (b2.mono H1.out.2.1), by have := b2.size; have := H1.out.2.1; omega, H1.out.2.2.below b2, hPE⟩
      clear b2 hPE NW NA
      go_wp2
      go_loopw [6, 7] (fun r i wr => ∃ (k d : Nat), k ≤ n0 ∧ i = .int .i64 k ∧ (∃ R : Bool, r = .bool R ∧ (R = true ↔ ¬ TabOk (ts0.take k))) ∧ wr = w2.drewN d)
        (fun _ i _ => n0 - (intOf i).toNat)
      case atStart => exact ⟨0, 0, by omega, rfl, ⟨false, rfl, by simp [TabOk]⟩, rfl⟩
      case round =>
        obtain ⟨k, d, hk, rfl, ⟨X, rfl, hX⟩, rfl⟩ := hrel
        by_cases hlt : k < n0
        · have hlt' : (k : Int) < n0 := by omega
          obtain ⟨b, off, ha, hlo, hrow⟩ := H2.out.2.2.1.2.resolve_left (by omega)
          subst ha
          obtain ⟨t, ht⟩ : ∃ t, ts0[k]? = some t := ⟨_, List.getElem?_eq_getElem (by rw [H.out.2.2.1]; exact hlt)⟩
          obtain ⟨L, hT, hR⟩ := hrow k t ht
          obtain ⟨ka, kn, kc, ga, gn, gc, hL, ⟨k1, k2, k3, k4⟩, ⟨g1, g2, g3, g4⟩, hf⟩ := hT
          subst hL
          have c0 : w2.cell? ⟨b, off + k * 5, none⟩ = some (.int .u32 t.id) := hR 0 _ rfl
          have c1 : w2.cell? ⟨b, off + k * 5 + 1, none⟩ = some (.slice ka kn kc) := hR 1 _ rfl
          have HT : Hid (ts0[k]? = some t ∧ t.key.length = kn ∧ (∀ r u, ts0[r]? = some u → ∃ L, TenIn 0 w2 L u ∧ w2.rangeAt b (off + r * 5) L)) := ⟨ht, k1.1, hrow⟩
          have hz : ((kn : Int) == 0) = decide (t.key = []) := by
            rw [Bool.eq_iff_iff]
            simp only [beq_iff_eq, decide_eq_true_eq]
            rw [← k1.1]
            constructor
            · intro h; exact List.length_eq_zero_iff.1 (by omega)
            · intro h; rw [h]; rfl
          clear hrow ht hR k1 k2 k3 k4 g1 g2 g3 g4 hf
          have HX : Hid (X = true ↔ ¬ TabOk (ts0.take k)) := hX
          obtain ⟨Y, hY⟩ : ∃ Y, Y = decide (t.key = []) := ⟨_, rfl⟩
          rw [← hY] at hz
          have HY : Hid (Y = true ↔ t.key = []) := by show _ ↔ _; rw [hY]; simp
          clear hX hY
          cases X with
          | true =>
            go_wp2
            clear hz
            go_loopw [6, 8] (fun r i wr => ∃ (j dd : Nat) (R : Bool), j ≤ k ∧ i = .int .i64 j ∧ r = .bool R ∧ (R = true ↔ BadP ts0 k j) ∧ wr = w2.drewN dd)
              (fun _ i _ => k - (intOf i).toNat)
            case atStart => exact ⟨0, d, _, by omega, rfl, rfl, ⟨fun _ => (bad_zero HT.out.1).2 (.inl (HX.out.1 (by simp))), fun _ => rfl⟩, rfl⟩
            case round =>
              obtain ⟨j, dd, R, hj, rfl, rfl, hR, rfl⟩ := hrel
              have HR : Hid (R = true ↔ BadP ts0 k j) := hR
              clear hR
              by_cases hjk : j < k
              · have hjk' : (j : Int) < k := by omega
                have hjn : (j : Int) < n0 := by omega
                obtain ⟨u, hu⟩ : ∃ u, ts0[j]? = some u := ⟨_, List.getElem?_eq_getElem (by rw [H.out.2.2.1]; omega)⟩
                obtain ⟨L2, hT2, hR2⟩ := HT.out.2.2 j u hu
                obtain ⟨ka2, kn2, kc2, ga2, gn2, gc2, hL2, _⟩ := hT2
                subst hL2
                have e0 : w2.cell? ⟨b, off + j * 5, none⟩ = some (.int .u32 u.id) := hR2 0 _ rfl
                have HU : Hid (BadP ts0 k (j + 1) ↔ BadP ts0 k j ∨ t.id = u.id) := bad_step HT.out.1 hu
                clear hu hR2
                cases R with
                | true =>
                  go_wp2
                  go_quiet (fail)
                  go_wp2
                  go_roundw
                  case rel => exact ⟨j + 1, _, true, by omega, by go_num, rfl, ⟨fun _ => HU.out.2 (.inl (HR.out.1 (by simp))), fun _ => rfl⟩, rfl⟩
                  case measure => simp [intOf]; omega
                | false =>
                  go_wp2
                  go_quiet (fail)
                  go_wp2
                  go_roundw
                  case rel =>
                    refine ⟨j + 1, _, _, by omega, by go_num, rfl, ?_, rfl⟩
                    rw [HU.out]
                    have hn : ¬ BadP ts0 k j := fun h => by have := HR.out.2 h; simp at this
                    simp [hn]
                  case measure => simp [intOf]; omega
              · have hge2 : (k : Int) ≤ j := by omega
                have hjk2 : j = k := by omega
                have HN : Hid (R = true ↔ ¬ TabOk (ts0.take (k + 1))) := by
                  have h1 := HR.out
                  rw [hjk2] at h1
                  exact h1.trans (bad_next (by rw [H.out.2.2.1]; exact hlt))
                clear hjk2
                go_wp2
                go_roundw
                case rel => exact ⟨k + 1, _, by omega, by go_num, ⟨R, rfl, HN.out⟩, rfl⟩
                case measure => simp [intOf]; omega
          | false =>
            go_wp2
            clear hz
            go_loopw [6, 8] (fun r i wr => ∃ (j dd : Nat) (R : Bool), j ≤ k ∧ i = .int .i64 j ∧ r = .bool R ∧ (R = true ↔ BadP ts0 k j) ∧ wr = w2.drewN dd)
              (fun _ i _ => k - (intOf i).toNat)
            case atStart => exact ⟨0, d, _, by omega, rfl, rfl, ⟨fun h => (bad_zero HT.out.1).2 (.inr (HY.out.1 h)), fun h => HY.out.2 (((bad_zero HT.out.1).1 h).resolve_left (fun h2 => by have := HX.out.2 h2; simp at this))⟩, rfl⟩
            case round =>
              obtain ⟨j, dd, R, hj, rfl, rfl, hR, rfl⟩ := hrel
              have HR : Hid (R = true ↔ BadP ts0 k j) := hR
              clear hR
              by_cases hjk : j < k
              · have hjk' : (j : Int) < k := by omega
                have hjn : (j : Int) < n0 := by omega
                obtain ⟨u, hu⟩ : ∃ u, ts0[j]? = some u := ⟨_, List.getElem?_eq_getElem (by rw [H.out.2.2.1]; omega)⟩
                obtain ⟨L2, hT2, hR2⟩ := HT.out.2.2 j u hu
                obtain ⟨ka2, kn2, kc2, ga2, gn2, gc2, hL2, _⟩ := hT2
                subst hL2
                have e0 : w2.cell? ⟨b, off + j * 5, none⟩ = some (.int .u32 u.id) := hR2 0 _ rfl
                have HU : Hid (BadP ts0 k (j + 1) ↔ BadP ts0 k j ∨ t.id = u.id) := bad_step HT.out.1 hu
                clear hu hR2
                cases R with
                | true =>
                  go_wp2
                  go_quiet (fail)
                  go_wp2
                  go_roundw
                  case rel => exact ⟨j + 1, _, true, by omega, by go_num, rfl, ⟨fun _ => HU.out.2 (.inl (HR.out.1 (by simp))), fun _ => rfl⟩, rfl⟩
                  case measure => simp [intOf]; omega
                | false =>
                  go_wp2
                  go_quiet (fail)
                  go_wp2
                  go_roundw
                  case rel =>
                    refine ⟨j + 1, _, _, by omega, by go_num, rfl, ?_, rfl⟩
                    rw [HU.out]
                    have hn : ¬ BadP ts0 k j := fun h => by have := HR.out.2 h; simp at this
                    simp [hn]
                  case measure => simp [intOf]; omega
              · have hge2 : (k : Int) ≤ j := by omega
                have hjk2 : j = k := by omega
                have HN : Hid (R = true ↔ ¬ TabOk (ts0.take (k + 1))) := by
                  have h1 := HR.out
                  rw [hjk2] at h1
                  exact h1.trans (bad_next (by rw [H.out.2.2.1]; exact hlt))
                clear hjk2
                go_wp2
                go_roundw
                case rel => exact ⟨k + 1, _, by omega, by go_num, ⟨R, rfl, HN.out⟩, rfl⟩
                case measure => simp [intOf]; omega
        · have hge : (n0 : Int) ≤ k := by omega
          have HN : Hid (X = true ↔ ¬ TabOk ts0) := by
            have := hX
            rwa [List.take_of_length_le (by rw [H.out.2.2.1]; omega)] at this
          clear hX
          cases X with
          | true =>
            have hE1 : E = 1 ∧ P = .pointer none := by
              have hno := HN.out.1 (by simp)
              have h1 : newE ts0 = 1 := by rw [HE.out, if_neg hno]
              rcases H2.out.2.2.2 with ⟨h0, _⟩ | ⟨_, h2, h3⟩
              · rw [h1] at h0; cases h0
              · exact ⟨by rw [h2, h1], h3⟩
            obtain ⟨rfl, rfl⟩ := hE1
            go_wp2
            go_ret
            exact ⟨rfl, below_drewN H2.out.1 _⟩
          | false =>
            have hok : TabOk ts0 := by
              by_cases h : TabOk ts0
              · exact h
              · have := HN.out.2 h; simp at this
            have hE0 : E = 0 ∧ TabIn w1.heap.size w2 P ts0 := by
              have h1 : newE ts0 = 0 := by rw [HE.out, if_pos hok]
              rcases H2.out.2.2.2 with ⟨_, h2, h3⟩ | ⟨h0, _⟩
              · exact ⟨h2, h3⟩
              · exact absurd h1 h0
            obtain ⟨rfl, hTab⟩ := hE0
            have HK : Hid (TabOk ts0 ∧ TabIn w1.heap.size w2 P ts0 ∧ ∀ t ∈ ts0, Small t) := ⟨hok, hTab, fun t ht => ⟨by have := (HF.out.2 t ht).1; omega, by have := (HF.out.2 t ht).2; omega⟩⟩
            clear hok hTab HN
            go_wp2
            go_loopw [9] (fun i wr => ∃ k : Nat, k ≤ n0 ∧ i = .int .i64 k ∧ Below w2.heap.size w2 wr)
              (fun i _ => n0 - (intOf i).toNat)
            case atStart => exact ⟨0, by omega, rfl, below_drewN (Below.refl _ _) _⟩
            case round =>
              obtain ⟨i, hi, rfl, hb⟩ := hrel
              by_cases hlt : i < n0
              · have hlt' : (i : Int) < n0 := by omega
                obtain ⟨b, off, ha, hlo, hrow⟩ := (H2.out.2.2.1.below hb).2.resolve_left (by omega)
                subst ha
                obtain ⟨t, ht⟩ : ∃ t, ts0[i]? = some t := ⟨_, List.getElem?_eq_getElem (by rw [H.out.2.2.1]; exact hlt)⟩
                obtain ⟨L, hT, hR⟩ := hrow i t ht
                obtain ⟨ka, kn, kc, ga, gn, gc, hL, _, _, hf⟩ := id hT
                subst hL
                have TN := tenant_of w1.heap.size P ts0 t.id wr (HK.out.2.1.below hb) hf.1 HK.out.2.2
                rw [tab_find HK.out.1 ht] at TN
                dsimp only [Option.isSome, Option.getD] at TN
                have c0 : wr.cell? ⟨b, off + i * 5, none⟩ = some (.int .u32 t.id) := hR 0 _ rfl
                have HT : Hid (ts0[i]? = some t ∧ TenIn 0 wr (tenL t ka kn kc ga gn gc) t ∧ wr.rangeAt b (off + i * 5) (tenL t ka kn kc ga gn gc) ∧ Below w2.heap.size w2 wr ∧ t.gone.length ≤ 1000) := ⟨ht, hT, hR, hb, (HK.out.2.2 t (List.mem_of_getElem? ht)).2⟩
                clear hrow ht hT hR hb hf
                go_upto_region 22 with (first
                  | (go_at_call 7; refine TN.mono ?_; rintro e w3 ⟨L3, rfl, hT3, b3⟩; obtain ⟨ka3, kn3, kc3, ga3, gn3, gc3, hL3, _⟩ := id hT3; subst hL3)
                  | (refine wpList_store_mid rfl 35 (.tmp 10) (.tmp 95) rfl w3.heap.size 0 (tenL t ka3 kn3 kc3 ga3 gn3 gc3).toArray rfl rfl ?hT (ten_size _ _ _ _ _ _ _) (ten_all _ _ _ _ _ _ _) ?_; (case hT => exact ten_there _)))
                generalize hX : World.setCells _ _ _ _ = X
                obtain ⟨g, hg⟩ : ∃ g, g = w3.heap.size := ⟨_, rfl⟩
                rw [← hg]
                have bx : Below w3.heap.size w3 X := by rw [← hX]; exact below_setCells (Nat.le_refl _) _ _ _ ((Below.refl _ _).alloc (Nat.le_refl _) _)
                have bk : Blk X g (tenL t ka3 kn3 kc3 ga3 gn3 gc3) 35 := by rw [← hX, hg]; exact (Blk.new' (L := ten0L) rfl rfl).setAll (by rfl)
                have b2x : Below wr.heap.size wr X := b3.trans (bx.mono b3.size)
                have hR' : X.rangeAt b (off + i * 5) (tenL t ka kn kc ga gn gc) := range_keeps HT.out.2.2.1 (Nat.zero_le b) (Keeps.of_below b2x)
                have cS := same_grown (tenL t ka3 kn3 kc3 ga3 gn3 gc3) (tenL t ka kn kc ga gn gc) t ((hT3.below bx).lower (Nat.zero_le _)) (HT.out.2.1.below b2x) HT.out.2.2.2.2
                have HX : Hid (Below w2.heap.size w2 X ∧ w2.heap.size ≤ X.heap.size) := by
                  have h1 := HT.out.2.2.2.1.size
                  have h2 := b2x.size
                  exact ⟨HT.out.2.2.2.1.trans (b2x.mono h1), by omega⟩
                have e0 := cell_regrown (show X.cell? ⟨g, 0, none⟩ = some (.int .u32 t.id) from bk.cell 0)
                have e1 := cell_regrown (show X.cell? ⟨g, 1, none⟩ = some (.slice ka3 kn3 kc3) from bk.cell 1)
                have e2 := cell_regrown (show X.cell? ⟨g, 2, none⟩ = some (.int .u64 t.quota) from bk.cell 2)
                have e3 := cell_regrown (show X.cell? ⟨g, 3, none⟩ = some (.int .u64 t.size) from bk.cell 3)
                have e4 := cell_regrown (show X.cell? ⟨g, 4, none⟩ = some (.slice ga3 gn3 gc3) from bk.cell 4)
                have f0 := cell_regrown (show X.cell? ⟨b, off + i * 5, none⟩ = some (.int .u32 t.id) from hR' 0 _ rfl)
                have f1 := cell_regrown (show X.cell? ⟨b, off + i * 5 + 1, none⟩ = some (.slice ka kn kc) from hR' 1 _ rfl)
                have f2 := cell_regrown (show X.cell? ⟨b, off + i * 5 + 2, none⟩ = some (.int .u64 t.quota) from hR' 2 _ rfl)
                have f3 := cell_regrown (show X.cell? ⟨b, off + i * 5 + 3, none⟩ = some (.int .u64 t.size) from hR' 3 _ rfl)
                have f4 := cell_regrown (show X.cell? ⟨b, off + i * 5 + 4, none⟩ = some (.slice ga gn gc) from hR' 4 _ rfl)
                unfold tenL at cS
                clear hX hg bx bk b2x hR' hT3 b3 TN c0
                refine wp_region_quiet_below (by kernel_rfl) (by kernel_rfl) ?_
                iterate 8 (quiet_step (fail))
                quiet_step (exact cS _ _)
                iterate 2 (quiet_step (fail))
                refine wpQuiet_nil ?_
                intro _ hw'
                obtain ⟨⟨dq, osq⟩, hw''⟩ := hw'
                subst hw''
                have HY : Hid (Below w2.heap.size w2 (grow (redrawn X dq) osq)) := HX.out.1.trans ((below_regrown X dq osq).mono HX.out.2)
                generalize grow (redrawn X dq) osq = Z at HY ⊢
                clear cS e0 e1 e2 e3 e4 f0 f1 f2 f3 f4
                go_wp2
                go_roundw
                case rel => exact ⟨i + 1, by omega, by go_num, HY.out⟩
                case measure => simp [intOf]; omega
              · have hge : (n0 : Int) ≤ i := by omega
                have HB : Hid (Below w2.heap.size w2 wr) := hb
                clear hb
                go_wp2
                go_ret
                exact ⟨rfl, H2.out.1.trans (HB.out.mono H2.out.2.1)⟩
  · have hd : decide (Few ts0) = false := decide_eq_false hfew
    rw [hd] at TC
    clear hd hfew
    go_enter Tryd.func3, Tryd.ntmps3
    go_upto_region 2 with (go_at_call 4; refine TC.mono ?_; rintro e w ⟨rfl, rfl⟩)
    clear TC
    go_wp2_with (go_at_call 5; refine (pknown_any _ H.out.2.1).mono ?_; rintro e w1 ⟨rfl, b1⟩)
    go_ret
    exact ⟨rfl, by rw [H.out.1]; exact b1⟩

set_option maxRecDepth 100000 in
theorem lifted (os : Os) (started : os.Started) (H : Type) (enc : TypeId × Value → H) :
    ReturnsInHanded {} Tryd.checked os 3 .any (fun w args => (Rows.passNewSpec.pre enc Tryd.prog Tryd.f3 [] false w args ∧ laidMetH Tryd.prog laid2 w) ∧ sizedMet enc Tryd.prog Tryd.f3 (OpenSpec.ofChange Rows.passNewSpec) false w args)
      (Rows.passNewSpec.post enc Tryd.prog Tryd.f3 false true false false) := by
  refine returnsInHanded_of_change_and (C := Tryd.checked) (X := fun w _ => laidMetH Tryd.prog laid2 w) (fun _ _ _ hh h => h.of_heap hh) own started (by kernel_rfl) Tryd.func3
    (ChangeSpec.witness_shaped (enc := enc) (C := Tryd.checked) (os := os) (X := fun w _ => laidMetH Tryd.prog laid2 w) false (World.doorLaid Tryd.prog 400 os) #[.slice none 0 0] 8 rfl (World.shaped_of_RefB (by kernel_rfl) (by kernel_rfl)) (by kernel_rfl) (by kernel_rfl) (by kernel_rfl) (door_met os _)) ?_
  intro W base args ds gs before hval0 hW hcnd _ hL _
  have hval : ∀ (j : Nat) t v, Tryd.f3.params[j]? = some t → args[j]? = some v → Value.okWide Tryd.prog W .any base t v := hval0
  have hW' := hW
  obtain ⟨p, q, hA0, hV, rfl, hfz, hnd⟩ := hW
  have hA : DataW.TrodAll enc Tryd.prog W 0 (fun _ => true) true Tryd.f3.params.toList args.toList ds p := hA0
  rw [Tryd.params3] at hA hval
  obtain ⟨v0, vs0, d0, ds0, p0, q0, hargs, rfl, rfl, h0, r0⟩ := trodAll_cons hA
  obtain ⟨rfl, rfl, rfl⟩ := trodAll_nil r0
  obtain rfl : args = #[v0] := by cases args; simp_all
  obtain ⟨rfl, rfl⟩ := trodVars_none hV
  obtain ⟨a0, n0, c0, rfl⟩ := okWide_slice Tryd.underlying22 (hval 0 22 v0 rfl rfl)
  have k0 := h0
  have lt0 : ∀ x ∈ p0, x.block < W.heap.size := by obtain ⟨m, hm⟩ := k0; exact DataW.trod_lt m _ _ _ hm
  obtain ⟨ts0, w0⟩ := open_tens h0
  clear hA0 hval0
  refine (walk a0 n0 c0 ts0 W (of_laid hL) w0).mono fun e W' ⟨he, bel⟩ => ?_
  subst he
  exact ⟨_, rfl, _, _, _, [], _, [], hW', trodAll_mk1 (shut_bool Tryd.underlying4 _), (trodAll_cons_mk (Below.trod laidOut (by kernel_rfl) (of_decide_eq_true (by kernel_rfl)) k0 bel lt0) trodAll_mk0), rfl, bel.frame _, fun h => by cases h⟩

theorem over : Rows.passNewRow.holds Tryd.pinned (OpenSpec.ofChange Rows.passNewSpec) :=
  OpenClaim.holds_of_wide 3 Tryd.f3 rfl rfl rfl rfl rfl rfl rfl ⟨rfl, rfl, rfl, rfl, rfl⟩ rfl rfl rfl rfl rfl (by kernel_rfl) Tryd.func3 (by kernel_rfl)
    (of_decide_eq_true (by kernel_rfl)) (by unfold Func.isWrapper; first | (rw [if_pos (by decide +kernel)]; kernel_rfl) | (rw [if_neg (by decide +kernel)]; exact ⟨rfl, rfl⟩))
    (fun os started H enc _ => lifted os started H enc)

theorem said : Rows.PassNewSaid := over
end Go.Proofs.YtpliokkmiijieabDoor.passNew
namespace Go.Proofs.YtpliokkmiijieabDoor
/-- The tied card. -/
theorem passNew_card : Rows.PassNewCardSaid :=
  Claim7.holds_tied_plain_at .later [] [.data, .data] true (true, "c2c38a069d55a81e608029086849d9fef2302647e520a37135992f06542775a2") false
    passNew.said (fun _ h => by cases h) (by kernel_rfl) (fun _ h => by cases h) passNew_row_tie rfl ⟨rfl, rfl⟩ (by kernel_rfl) rfl
    (fun f fn hf hfn => by
      obtain rfl : f = 3 := Option.some.inj ((show Tryd.prog.funcNamed "coaming/coaminglaw05.PassNew" = some 3 by kernel_rfl).symm.trans hf) |>.symm
      obtain rfl : fn = Tryd.f3 := (Option.some.inj (Tryd.func3.symm.trans hfn)).symm
      exact ⟨by kernel_rfl, fun j t ht => by
        rw [Tryd.params3] at ht
        have hm : t ∈ [22] := by simpa using Array.mem_of_getElem? ht
        have hall : ([22].all fun u => !Tryd.prog.wantsStandIn u) = true := by kernel_rfl
        exact (show Tryd.prog.wantsStandIn t = false by simpa using List.all_eq_true.1 hall t hm)⟩)
    (by kernel_rfl)
#print axioms passNew_card
end Go.Proofs.YtpliokkmiijieabDoor
