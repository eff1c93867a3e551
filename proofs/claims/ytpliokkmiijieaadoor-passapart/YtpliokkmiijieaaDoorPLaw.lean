/- What one call of the statements' own Tenants and sameTenant does. -/
import Derived.Test.YtpliokkmiijieaaDoorPOpen
import Derived.BigQuiet
namespace Go.Proofs.YtpliokkmiijieaaDoor
open Go.RowKit
set_option linter.unusedVariables false
set_option maxRecDepth 4000

/-- Few enough tenants, with short lists. -/
def Few (ts : List Ten) : Prop := ts.length ≤ 70 ∧ ∀ t ∈ ts, t.key.length ≤ 200 ∧ t.gone.length ≤ 50
instance (ts : List Ten) : Decidable (Few ts) := by unfold Few; exact inferInstance

theorem passNew_any (lo : Nat) (a : Option Addr) (len cap : Nat) (ts : List Ten) (w : World) (h : TsIn lo w a len ts) (hl : len ≤ 1000) (hb : ∀ t ∈ ts, Small t) :
    Calls Tryd.prog 16 #[.slice a len cap] w fun e w' => ∃ (P : Value) (E : Int), e = .returned (.tuple #[P, .int .u16 E]) ∧ Below w.heap.size w w' ∧ ((newE ts = 0 ∧ E = 0 ∧ TabIn w.heap.size w' P ts) ∨ (newE ts ≠ 0 ∧ E = newE ts ∧ P = .pointer none)) := by
  refine (passNew_of lo a len cap ts w h hl hb).mono ?_
  rintro e w' ⟨hB, (⟨h0, p, rfl, hT⟩ | ⟨h0, rfl⟩)⟩
  · exact ⟨p, 0, rfl, hB, .inl ⟨h0, rfl, hT⟩⟩
  · exact ⟨_, _, rfl, hB, .inr ⟨h0, rfl, rfl⟩⟩

set_option maxHeartbeats 1000000 in
theorem tenants_of (lo : Nat) (a : Option Addr) (n c : Nat) (ts : List Ten) (w : World) (h : TsIn lo w a n ts) :
    Calls Tryd.prog 14 #[.slice a n c] w fun e w' => e = .returned (.bool (decide (Few ts))) ∧ w' = w := by
  have H : Hid (TsIn lo w a n ts) := h
  clear h
  by_cases h70 : (70 : Int) < n
  · have hd : decide (Few ts) = false := decide_eq_false (fun h => by have := h.1; rw [H.out.1] at this; omega)
    rw [hd]
    clear hd
    go_enter Tryd.func14, Tryd.ntmps14
    go_wp2
    go_ret
    exact ⟨rfl, rfl⟩
  · have h70' : (n : Int) ≤ 70 := by omega
    obtain ⟨F, hF⟩ : ∃ F, F = decide (Few ts) := ⟨_, rfl⟩
    have HF : Hid (F = decide (Few ts)) := hF
    rw [← hF]
    clear hF
    go_enter Tryd.func14, Tryd.ntmps14
    go_wp2
    go_loopw [3] (fun i wr => ∃ k : Nat, k ≤ n ∧ i = .int .i64 k ∧ (∀ t ∈ ts.take k, t.key.length ≤ 200 ∧ t.gone.length ≤ 50) ∧ wr = w)
      (fun i _ => n - (intOf i).toNat)
    case atStart => exact ⟨0, by omega, rfl, by simp, rfl⟩
    case round =>
      obtain ⟨k, hk, rfl, hall, rfl⟩ := hrel
      have HA : Hid (∀ t ∈ ts.take k, t.key.length ≤ 200 ∧ t.gone.length ≤ 50) := hall
      clear hall
      by_cases hlt : k < n
      · have hlt' : (k : Int) < n := by omega
        obtain ⟨b, off, ha, hlo, hrow⟩ := H.out.2.resolve_left (by omega)
        subst ha
        obtain ⟨t, ht⟩ : ∃ t, ts[k]? = some t := ⟨_, List.getElem?_eq_getElem (by rw [H.out.1]; exact hlt)⟩
        obtain ⟨L, hT, hR⟩ := hrow k t ht
        obtain ⟨ka, kn, kc, ga, gn, gc, hL, ⟨k1, k2, k3, k4⟩, ⟨g1, g2, g3, g4⟩, hf⟩ := hT
        subst hL
        have c1 : wr.cell? ⟨b, off + k * 5 + 1, none⟩ = some (.slice ka kn kc) := hR 1 _ rfl
        have c4 : wr.cell? ⟨b, off + k * 5 + 4, none⟩ = some (.slice ga gn gc) := hR 4 _ rfl
        have HT : Hid (ts[k]? = some t ∧ t.key.length = kn ∧ t.gone.length = gn) := ⟨ht, k1.1, g1.1⟩
        clear hrow ht hR k1 k2 k3 k4 g1 g2 g3 g4 hf
        by_cases hb1 : (200 : Int) < kn
        · have hd : F = false := by
            rw [HF.out]
            refine decide_eq_false (fun h => ?_)
            have := (h.2 t (List.mem_of_getElem? HT.out.1)).1
            rw [HT.out.2.1] at this
            omega
          subst hd
          go_wp2
          go_ret
          exact ⟨rfl, rfl⟩
        · have hb1' : (kn : Int) ≤ 200 := by omega
          have hx1 : decide ((200 : Int) < kn) = false := by simpa using hb1'
          by_cases hb2 : (50 : Int) < gn
          · have hd : F = false := by
              rw [HF.out]
              refine decide_eq_false (fun h => ?_)
              have := (h.2 t (List.mem_of_getElem? HT.out.1)).2
              rw [HT.out.2.2] at this
              omega
            subst hd
            go_wp2
            go_ret
            exact ⟨rfl, rfl⟩
          · have hb2' : (gn : Int) ≤ 50 := by omega
            have hx2 : decide ((50 : Int) < gn) = false := by simpa using hb2'
            go_wp2
            go_roundw
            case rel =>
              refine ⟨k + 1, by omega, by go_num, ?_, trivial⟩
              rw [take_next HT.out.1]
              intro x hx
              rcases List.mem_append.1 hx with hx | hx
              · exact HA.out x hx
              · simp only [List.mem_cons, List.not_mem_nil, or_false] at hx
                subst hx
                have := HT.out.2
                omega
            case measure => simp [intOf]; omega
      · have hge : (n : Int) ≤ k := by omega
        have hd : F = true := by
          rw [HF.out]
          refine decide_eq_true ⟨by rw [H.out.1]; omega, ?_⟩
          have := HA.out
          rwa [List.take_of_length_le (by rw [H.out.1]; omega)] at this
        subst hd
        go_wp2
        go_ret
        exact ⟨rfl, rfl⟩

set_option maxHeartbeats 2000000 in
theorem sameTenant_of (lo lo' : Nat) (L L' : List Value) (t : Ten) (w : World) (h : TenIn lo w L t) (h' : TenIn lo' w L' t) (hg : t.gone.length ≤ 1000) :
    Calls Tryd.prog 22 #[.agg L.toArray, .agg L'.toArray] w fun e w' => e = .returned (.bool true) ∧ Below w.heap.size w w' := by
  obtain ⟨ka, kn, kc, ga, gn, gc, hL, ⟨k1, k2, k3, k4⟩, ⟨g1, g2, g3, g4⟩, hf⟩ := h
  obtain ⟨ka', kn', kc', ga', gn', gc', hL', ⟨k1', k2', k3', k4'⟩, ⟨g1', g2', g3', g4'⟩, hf'⟩ := h'
  subst hL
  subst hL'
  have e1 : kn' = kn := by rw [← k1.1, ← k1'.1]
  have e2 : gn' = gn := by rw [← g1.1, ← g1'.1]
  subst e1
  subst e2
  obtain ⟨q, hq⟩ : ∃ q, q = w.heap.size := ⟨_, rfl⟩
  have lg : gn' ≤ 1000 := by rw [← g1.1]; exact hg
  have H : Hid (q = w.heap.size ∧ BIn w ka kn' t.key ∧ BIn w ka' kn' t.key ∧ UIn w ga gn' t.gone ∧ UIn w ga' gn' t.gone) := ⟨hq, k1, k1', g1, g1'⟩
  rw [← hq]
  clear k1 k2 k3 k4 g1 g2 g3 g4 hf k1' k2' k3' k4' g1' g2' g3' g4' hf' hg
  go_enter Tryd.func22, Tryd.ntmps22
  go_upto_region 1 with fail
  rw [← hq]
  generalize hV : World.alloc (World.alloc w _) _ = V
  have pv : Blk V q (tenL t ka kn' kc ga gn' gc) 49 ∧ Blk V (q + 1) (tenL t ka' kn' kc' ga' gn' gc') 49 ∧ Below q w V := by
    rw [← hV]
    exact ⟨(Blk.new' hq.symm rfl).alloc _, Blk.new' (by simp [hq]) rfl, ((Below.refl _ _).alloc (by omega) _).alloc (by simp; omega) _⟩
  clear hV hq
  obtain ⟨v0, v1, v2⟩ := pv
  have bw : Below w.heap.size w V := by rw [← H.out.1]; exact v2
  have HV : Hid (Below q w V ∧ UIn V ga gn' t.gone ∧ UIn V ga' gn' t.gone) := ⟨v2, H.out.2.2.2.1.keeps (Lo.zero _) (Keeps.of_below bw), H.out.2.2.2.2.keeps (Lo.zero _) (Keeps.of_below bw)⟩
  have c0 : V.cell? ⟨q, 0, none⟩ = some (.int .u32 t.id) := v0.cell 0
  have c1 : V.cell? ⟨q, 1, none⟩ = some (.slice ka kn' kc) := v0.cell 1
  have c2 : V.cell? ⟨q, 2, none⟩ = some (.int .u64 t.quota) := v0.cell 2
  have c3 : V.cell? ⟨q, 3, none⟩ = some (.int .u64 t.size) := v0.cell 3
  have c4 : V.cell? ⟨q, 4, none⟩ = some (.slice ga gn' gc) := v0.cell 4
  have d0 : V.cell? ⟨q + 1, 0, none⟩ = some (.int .u32 t.id) := v1.cell 0
  have d1 : V.cell? ⟨q + 1, 1, none⟩ = some (.slice ka' kn' kc') := v1.cell 1
  have d2 : V.cell? ⟨q + 1, 2, none⟩ = some (.int .u64 t.quota) := v1.cell 2
  have d3 : V.cell? ⟨q + 1, 3, none⟩ = some (.int .u64 t.size) := v1.cell 3
  have d4 : V.cell? ⟨q + 1, 4, none⟩ = some (.slice ga' gn' gc') := v1.cell 4
  have s1 := str_of V ka kn' kc t.key (H.out.2.1.below bw)
  have s2 := str_of V ka' kn' kc' t.key (H.out.2.2.1.below bw)
  clear v0 v1 v2 bw
  go_wp2
  go_loopw [5] (fun i wr => ∃ (k d : Nat), k ≤ gn' ∧ i = .int .i64 k ∧ wr = V.drewN d)
    (fun i _ => gn' - (intOf i).toNat)
  case atStart => exact ⟨0, 0, by omega, rfl, rfl⟩
  case round =>
    obtain ⟨k, d, hk, rfl, rfl⟩ := hrel
    clear s1 s2
    by_cases hlt : k < gn'
    · have hlt' : (k : Int) < gn' := by omega
      obtain ⟨b, off, ha, hcell⟩ := HV.out.2.1.2.2.2.resolve_left (by omega)
      obtain ⟨b', off', ha', hcell'⟩ := HV.out.2.2.2.2.2.resolve_left (by omega)
      subst ha
      subst ha'
      have hc := hcell k hlt
      have hc' := hcell' k hlt
      obtain ⟨x, ex⟩ : ∃ x, x = t.gone.getD k 0 := ⟨_, rfl⟩
      rw [← ex] at hc hc'
      clear hcell hcell' ex
      go_wp2
      go_quiet (fail)
      go_wp2
      go_roundw
      case rel => exact ⟨k + 1, _, by omega, by go_num, rfl⟩
      case measure => simp [intOf]; omega
    · have hge : (gn' : Int) ≤ k := by omega
      go_wp2
      go_ret
      exact ⟨rfl, below_drewN HV.out.1 _⟩
end Go.Proofs.YtpliokkmiijieaaDoor
