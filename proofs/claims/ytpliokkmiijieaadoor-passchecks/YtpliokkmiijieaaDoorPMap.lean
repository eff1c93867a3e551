/- A map of tenants in the world; what one call of slices.Index, slices.Contains and refusal does. -/
import Derived.Test.YtpliokkmiijieaaDoorPTen
import Derived.Maps.OwnSet
import Derived.WalkArith
namespace Go.Proofs.YtpliokkmiijieaaDoor
open Go.RowKit
set_option linter.unusedVariables false
set_option maxRecDepth 4000

/-- A map's element, as it is. -/
def heldR (v : Value) : Option (DataW Value × List MemPlace) := some (.held v, [])
def ten0L : List Value := tenL ten0 none 0 0 none 0 0
/-- Block b is a map of these tenants, each at its number; their lists lie from block lo on. -/
def MapIn (lo : Nat) (w : World) (b n : Nat) (ts : List Ten) : Prop :=
  ∃ D : DataW Value, w.ownsMap Tryd.prog 23 heldR b n D ∧ ∀ id, Fits32 id →
    (findT ts id = none → Maps.has D (.int .u32 id) = false) ∧
    (∀ t, findT ts id = some t → Maps.has D (.int .u32 id) = true ∧ ∃ L, (∀ z, D.atKey (.int .u32 id) z = .held (.agg L.toArray)) ∧ TenIn lo w L t)
theorem Tryd.key_law : Maps.Keyed Tryd.prog 23 := Maps.int_keyed Tryd.underlying23
theorem fits_wf {id : Int} (h : Fits32 id) : (Lit.int .u32 id).wf = true := WalkArith.wf_u32 (by unfold Fits32 at h; omega)
theorem key_id {id : Int} (h : Fits32 id) : keyOf Tryd.prog 23 (.int .u32 id) = some (.int .u32 id) := Maps.keyOf_int_mk Tryd.underlying23 (fits_wf h)
theorem Tryd.zero_tenant (w : World) : (zeroValue 49).run Tryd.prog w = .ok (.agg ten0L.toArray) w := (zero_of_info (show (Tryd.prog.info? 49).map (fun i => (i.zero, i.size)) = some (some (.agg ten0L.toArray), 5) by kernel_rfl)).1 w
theorem look_none {lo : Nat} {w : World} {b n : Nat} {ts : List Ten} {id : Int} (h : MapIn lo w b n ts) (hid : Fits32 id) (hf : findT ts id = none) :
    (Instr.lookup 70 (.map (some b)) (.int .u32 id) true).run Tryd.prog w = .ok (.tuple #[.agg ten0L.toArray, .bool false]) w := by
  obtain ⟨D, hown, hall⟩ := h
  have hh := (hall id hid).1 hf
  obtain ⟨v, ps, hrun, hv⟩ := hown.look_ok Tryd.key_law Tryd.underlying70 (Tryd.zero_tenant w) (zd := .held (.agg ten0L.toArray)) (zp := []) rfl (key_id hid)
  rw [Maps.atKey_of_not_has hh] at hv
  have hv' : (DataW.held v, ([] : List MemPlace)) = (.held (.agg ten0L.toArray), ps) := Option.some.inj hv
  have : v = .agg ten0L.toArray := by injection hv' with h1 _; injection h1
  rw [hrun, hh, this]
theorem look_some {lo : Nat} {w : World} {b n : Nat} {ts : List Ten} {id : Int} {t : Ten} (h : MapIn lo w b n ts) (hid : Fits32 id) (hf : findT ts id = some t) :
    ∃ L, TenIn lo w L t ∧ (Instr.lookup 70 (.map (some b)) (.int .u32 id) true).run Tryd.prog w = .ok (.tuple #[.agg L.toArray, .bool true]) w := by
  obtain ⟨D, hown, hall⟩ := h
  obtain ⟨hh, L, hL, hT⟩ := (hall id hid).2 t hf
  obtain ⟨v, ps, hrun, hv⟩ := hown.look_ok Tryd.key_law Tryd.underlying70 (Tryd.zero_tenant w) (zd := .held (.agg ten0L.toArray)) (zp := []) rfl (key_id hid)
  rw [hL] at hv
  have hv' : (DataW.held v, ([] : List MemPlace)) = (.held (.agg L.toArray), ps) := Option.some.inj hv
  have : v = .agg L.toArray := by injection hv' with h1 _; injection h1
  exact ⟨L, hT, by rw [hrun, hh, this]⟩
theorem MapIn.lt {lo : Nat} {w : World} {b n : Nat} {ts : List Ten} (h : MapIn lo w b n ts) : b < w.heap.size := by
  obtain ⟨D, hown, _⟩ := h; exact hown.lt
theorem owns_same {w w' : World} {k : TypeId} {b n : Nat} {D : DataW Value} (h : w.ownsMap Tryd.prog k heldR b n D) (hs : w'.heap[b]? = w.heap[b]?) : w'.ownsMap Tryd.prog k heldR b n D := by
  obtain ⟨es, clock, hb, F, hn, hD⟩ := h
  exact ⟨es, clock, hs.trans hb, F, hn, hD⟩
theorem MapIn.keeps {lo : Nat} {w w' : World} {b n : Nat} {ts : List Ten} (h : MapIn lo w b n ts) (hk : Keeps lo w w') (hb : lo ≤ b) : MapIn lo w' b n ts := by
  obtain ⟨D, hown, hall⟩ := h
  refine ⟨D, owns_same hown (hk b hb hown.lt), fun id hid => ⟨(hall id hid).1, fun t ht => ?_⟩⟩
  obtain ⟨h1, L, h2, h3⟩ := (hall id hid).2 t ht
  exact ⟨h1, L, h2, h3.keeps hk⟩
theorem no_cell {w : World} {b : Nat} {es : Array MapEntry} {c : Nat} (h : w.heap[b]? = some (.map es c)) (o : Nat) : w.cell? ⟨b, o, none⟩ = none := by simp [World.cell?, h]
theorem BIn.apart {w w' : World} {b : Nat} {a : Option Addr} {len : Nat} {zs : List Int} (h : BIn w a len zs) (hn : ∀ o, w.cell? ⟨b, o, none⟩ = none) (hs : ∀ k, k < w.heap.size → k ≠ b → w'.heap[k]? = w.heap[k]?) : BIn w' a len zs := by
  obtain ⟨h1, h2, h3, h4⟩ := h
  refine ⟨h1, h2, h3, ?_⟩
  rcases h4 with h4 | ⟨k, off, ha, hc⟩
  · exact .inl h4
  · refine .inr ⟨k, off, ha, fun i hi => ?_⟩
    have hci := hc i hi
    rw [cell_same (hs k (old_block hci) (fun e => by subst e; rw [hn] at hci; cases hci))]
    exact hci
theorem UIn.apart {w w' : World} {b : Nat} {a : Option Addr} {len : Nat} {zs : List Int} (h : UIn w a len zs) (hn : ∀ o, w.cell? ⟨b, o, none⟩ = none) (hs : ∀ k, k < w.heap.size → k ≠ b → w'.heap[k]? = w.heap[k]?) : UIn w' a len zs := by
  obtain ⟨h1, h2, h3, h4⟩ := h
  refine ⟨h1, h2, h3, ?_⟩
  rcases h4 with h4 | ⟨k, off, ha, hc⟩
  · exact .inl h4
  · refine .inr ⟨k, off, ha, fun i hi => ?_⟩
    have hci := hc i hi
    rw [cell_same (hs k (old_block hci) (fun e => by subst e; rw [hn] at hci; cases hci))]
    exact hci
theorem TenIn.apart {lo : Nat} {w w' : World} {b : Nat} {L : List Value} {t : Ten} (h : TenIn lo w L t) (hn : ∀ o, w.cell? ⟨b, o, none⟩ = none) (hs : ∀ k, k < w.heap.size → k ≠ b → w'.heap[k]? = w.heap[k]?) : TenIn lo w' L t := by
  obtain ⟨ka, kn, kc, ga, gn, gc, hL, ⟨k1, k2, k3, k4⟩, ⟨g1, g2, g3, g4⟩, hf⟩ := h
  exact ⟨ka, kn, kc, ga, gn, gc, hL, ⟨k1.apart hn hs, k2, k3, k4⟩, ⟨g1.apart hn hs, g2, g3, g4⟩, hf⟩
theorem find_snoc (ts : List Ten) (t : Ten) (id : Int) : findT (ts ++ [t]) id = (findT ts id).or (if t.id = id then some t else none) := by
  unfold findT
  rw [List.find?_append]
  congr 1
  by_cases h : t.id = id <;> simp [h]
/-- One tenant more. -/
theorem MapIn.put {lo : Nat} {w : World} {b n : Nat} {ts : List Ten} {t : Ten} {L : List Value} (h : MapIn lo w b n ts) (hT : TenIn lo w L t) (hn : n < 1000) (hf : findT ts t.id = none) :
    ∃ w', (Instr.mapUpdate 70 (.map (some b)) (.int .u32 t.id) (.agg L.toArray)).run Tryd.prog w = .ok () w' ∧ MapIn lo w' b (n + 1) (ts ++ [t]) ∧ w.grownBy w' (some b) := by
  obtain ⟨D, hown, hall⟩ := h
  have hid : Fits32 t.id := by obtain ⟨_, _, _, _, _, _, _, _, _, hfit⟩ := hT; exact hfit.1
  obtain ⟨w', hrun, r1, r2⟩ := hown.update Tryd.key_law Tryd.underlying70 (show n < maxLen by unfold maxLen; omega) (key_id hid) (val := .agg L.toArray) (d := .held (.agg L.toArray)) (ps := []) rfl
  have hno : ∀ o, w.cell? ⟨b, o, none⟩ = none := by
    obtain ⟨es, clock, hb, _⟩ := hown
    exact no_cell hb
  have hsm : ∀ k, k < w.heap.size → k ≠ b → w'.heap[k]? = w.heap[k]? := fun k h1 h2 => r2.block k h1 (by simpa using h2)
  have hkl : WideAt.IsKeyLit (.int .u32 t.id) := Tryd.key_law.key (key_id hid)
  refine ⟨w', hrun, ⟨_, r1, fun id hid' => ?_⟩, r2⟩
  rw [find_snoc]
  by_cases he : t.id = id
  · subst he
    rw [hf, if_pos rfl]
    refine ⟨(fun h => by cases h), fun t' ht' => ?_⟩
    cases ht'
    exact ⟨Maps.has_put_same hown.isMap hkl _, L, fun z => Maps.atKey_put_same hown.isMap hkl _ z, hT.apart hno hsm⟩
  · have hne : (Lit.int .u32 id) ≠ .int .u32 t.id := by intro e; injection e with _ e; exact he e.symm
    rw [if_neg he, Option.or_none, Maps.has_put_other hne]
    refine ⟨(hall id hid').1, fun t' ht' => ?_⟩
    obtain ⟨h1, L', h2, h3⟩ := (hall id hid').2 t' ht'
    exact ⟨h1, L', fun z => by rw [Maps.atKey_put_other hne]; exact h2 z, h3.apart hno hsm⟩
theorem MapIn.made (lo : Nat) (w : World) : MapIn lo (w.alloc (.map #[] 0)) w.heap.size 0 [] :=
  ⟨.map [], World.ownsMap_made w _ _ _, fun id _ => ⟨fun _ => rfl, fun t ht => by cases ht⟩⟩

set_option maxHeartbeats 1000000 in
theorem index_of (a : Option Addr) (n c : Nat) (zs : List Int) (v : Int) (w : World) (h : UIn w a n zs) (hn : n ≤ 1000) :
    Calls Tryd.prog 59 #[.slice a n c, .int .u32 v] w fun e w' => ∃ r : Int, e = .returned (.int .i64 r) ∧ (0 ≤ r ↔ v ∈ zs) ∧ w' = w := by
  have H : Hid (UIn w a n zs) := h
  clear h
  go_enter Tryd.func59, Tryd.ntmps59
  go_wp2
  go_loopw [8] (fun i wr => ∃ j : Nat, j ≤ n ∧ i = .int .i64 j ∧ v ∉ zs.take j ∧ wr = w)
    (fun i _ => n - (intOf i).toNat)
  case atStart => exact ⟨0, by omega, rfl, by simp, rfl⟩
  case round =>
    obtain ⟨j, hj, rfl, hno, rfl⟩ := hrel
    have HN : Hid (v ∉ zs.take j) := hno
    clear hno
    by_cases hlt : j < n
    · have hlt' : (j : Int) < n := by omega
      obtain ⟨b, off, ha, hcell⟩ := H.out.2.2.2.resolve_left (by omega)
      subst ha
      have hc := hcell j hlt
      clear hcell
      have hl : j < zs.length := by rw [H.out.1]; exact hlt
      obtain ⟨x, ex⟩ : ∃ x, x = zs.getD j 0 := ⟨_, rfl⟩
      rw [← ex] at hc
      have HX : Hid (∃ h : j < zs.length, x = zs[j]) := ⟨hl, by rw [ex]; simp [List.getD, hl]⟩
      clear ex hl
      by_cases hv : v = x
      · subst hv
        have HR : Hid (v ∈ zs) := by
          obtain ⟨h1, h2⟩ := HX.out
          exact h2 ▸ List.getElem_mem h1
        go_wp2
        go_ret
        exact ⟨j, rfl, ⟨fun _ => HR.out, fun _ => by omega⟩, rfl⟩
      · go_wp2
        go_roundw
        case rel =>
          refine ⟨j + 1, by omega, by go_num, ?_, trivial⟩
          obtain ⟨h1, h2⟩ := HX.out
          rw [List.take_succ_eq_append_getElem h1, List.mem_append, ← h2]
          simpa using ⟨HN.out, hv⟩
        case measure => simp [intOf]; omega
    · have hge : (n : Int) ≤ j := by omega
      have HR : Hid (v ∉ zs) := by
        have := HN.out
        rwa [List.take_of_length_le (by rw [H.out.1]; omega)] at this
      go_wp2
      go_ret
      exact ⟨-1, rfl, ⟨fun h => by omega, fun h => absurd h HR.out⟩, rfl⟩

theorem contains_of (a : Option Addr) (n c : Nat) (zs : List Int) (v : Int) (w : World) (h : UIn w a n zs) (hn : n ≤ 1000) :
    Calls Tryd.prog 52 #[.slice a n c, .int .u32 v] w fun e w' => e = .returned (.bool (decide (v ∈ zs))) ∧ w' = w := by
  have C := index_of a n c zs v w h hn
  clear h
  go_enter Tryd.func52, Tryd.ntmps52
  go_wp2_with fail
  refine C.mono ?_
  rintro e w ⟨r, rfl, hr, rfl⟩
  have HR : Hid (0 ≤ r ↔ v ∈ zs) := hr
  clear hr
  go_wp2
  go_ret
  refine ⟨congrArg (fun x => Ending.returned (Value.bool x)) ?_, rfl⟩
  have := HR.out
  by_cases hv : v ∈ zs
  · simpa [hv] using this
  · simpa [hv] using this
end Go.Proofs.YtpliokkmiijieaaDoor
