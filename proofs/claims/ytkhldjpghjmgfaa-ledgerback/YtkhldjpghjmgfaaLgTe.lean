/- Are there few enough, with short keys? -/
import Derived.Test.YtkhldjpghjmgfaaLgTn
namespace Go.Proofs.Ytkhldjpghjmgfaa
open Go.RowKit
set_option linter.unusedVariables false
set_option maxRecDepth 4000

def FewT (ts : List Tn) : Prop := ts.length ≤ 70 ∧ ∀ t ∈ ts, t.kn ≤ 200 ∧ t.gn ≤ 50
instance (ts : List Tn) : Decidable (FewT ts) := by unfold FewT; infer_instance
theorem tenants_of (a : Option Addr) (n c : Nat) (ts : List Tn) (w : World) (h : TsL w a n ts) :
    Calls Try.prog 12 #[.slice a n c] w fun e w' => e = .returned (.bool (decide (FewT ts))) ∧ Below w.heap.size w w' := by
  by_cases hn : (70 : Int) < n
  · have e : decide (FewT ts) = false := by
      apply decide_eq_false
      intro hh
      have := hh.1
      rw [h.1] at this
      omega
    rw [e]
    clear h e
    go_enter Try.func12, Try.ntmps12
    go_wp2
    go_ret
    exact ⟨rfl, Below.refl _ _⟩
  · have hn' : (n : Int) ≤ 70 := by omega
    have H : Hid (TsL w a n ts) := h
    clear h
    go_enter Try.func12, Try.ntmps12
    go_wp2
    go_loopw [3] (fun i wr => ∃ k : Nat, k ≤ n ∧ i = .int .i64 k ∧ (∀ t ∈ ts.take k, t.kn ≤ 200 ∧ t.gn ≤ 50) ∧ Below w.heap.size w wr) (fun i _ => n - (intOf i).toNat)
    case atStart => exact ⟨0, by omega, rfl, (fun t ht => by simp at ht), Below.refl _ _⟩
    case round =>
      obtain ⟨k, hk, rfl, hall, hB⟩ := hrel
      by_cases hlt : k < n
      · have hlt' : (k : Int) < n := by omega
        obtain ⟨b, off, ha, hrow⟩ := H.out.2.2.resolve_left (by omega)
        subst ha
        obtain ⟨t, ht⟩ : ∃ t, ts[k]? = some t := ⟨_, List.getElem?_eq_getElem (by rw [H.out.1]; exact hlt)⟩
        have hR := hrow k t ht
        have hR' : wr.rangeAt b (off + k * 5) (tC t) := rangeAt_same hR (hB.block b (rangeAt_lt hR))
        have d1 : wr.cell? ⟨b, off + k * 5 + 1, none⟩ = some (.slice t.ka t.kn t.kc) := hR' 1 _ rfl
        have d4 : wr.cell? ⟨b, off + k * 5 + 4, none⟩ = some (.slice t.ga t.gn t.gc) := hR' 4 _ rfl
        have d1' : wr.drew.cell? ⟨b, off + k * 5 + 1, none⟩ = some (.slice t.ka t.kn t.kc) := d1
        have d4' : wr.drew.cell? ⟨b, off + k * 5 + 4, none⟩ = some (.slice t.ga t.gn t.gc) := d4
        clear hR hR' hrow
        by_cases hs : t.kn ≤ 200 ∧ t.gn ≤ 50
        · have HN : Hid ((∀ x ∈ ts.take (k + 1), x.kn ≤ 200 ∧ x.gn ≤ 50) ∧ Below w.heap.size w wr) := by
            refine ⟨?_, hB⟩
            rw [List.take_add_one, ht]
            intro x hx
            rcases List.mem_append.1 hx with hx | hx
            · exact hall x hx
            · simp at hx; subst hx; exact hs
          have h1 : ¬ ((200 : Int) < t.kn) := by omega
          have h2 : ¬ ((50 : Int) < t.gn) := by omega
          clear hall hB hs ht
          go_wp2
          go_roundw
          case rel => exact ⟨k + 1, by omega, by go_num, HN.out.1, HN.out.2⟩
          case measure => simp [intOf]; omega
        · have e : decide (FewT ts) = false := by
            apply decide_eq_false
            intro hh
            exact hs (hh.2 t (List.mem_of_getElem? ht))
          have HE : Hid (decide (FewT ts) = false) := e
          clear e hall ht
          by_cases h1 : (200 : Int) < t.kn
          · go_wp2
            go_ret
            exact ⟨by rw [HE.out]; rfl, hB⟩
          · have h2 : (50 : Int) < t.gn := by omega
            go_wp2
            go_ret
            exact ⟨by rw [HE.out]; rfl, hB⟩
      · have hlt' : ¬ ((k : Int) < n) := by omega
        have e : decide (FewT ts) = true := by
          apply decide_eq_true
          refine ⟨by rw [H.out.1]; omega, ?_⟩
          rw [List.take_of_length_le (by rw [H.out.1]; omega)] at hall
          exact hall
        have HE : Hid (decide (FewT ts) = true) := e
        clear hall e
        go_wp2
        go_ret
        exact ⟨by rw [HE.out]; rfl, hB⟩
end Go.Proofs.Ytkhldjpghjmgfaa
