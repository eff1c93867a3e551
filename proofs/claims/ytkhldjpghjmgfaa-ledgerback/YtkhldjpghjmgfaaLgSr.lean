/- slices.Sorted of a map's names: the names in their order. -/
import Derived.Test.YtkhldjpghjmgfaaLgSq
namespace Go.Proofs.Ytkhldjpghjmgfaa
open Go.RowKit Go.Sort
set_option linter.unusedVariables false
set_option maxRecDepth 4000

theorem rowC_w (l : List Int) : rowC wC l = l.map (Value.int .u32) := by
  induction l with
  | nil => rfl
  | cons x t ih =>
    show wC x ++ rowC wC t = _
    rw [ih]; rfl
def idsQ (Q : Qs) : List Int := Q.map Prod.fst
theorem ids_mem {Q : Qs} (hr : Rise Q) (hf : QF Q) (x : Int) : x ∈ idsQ Q ↔ FitsW x ∧ (getQ Q x).isSome = true := by
  constructor
  · intro h
    obtain ⟨p, hp, rfl⟩ := List.mem_map.1 h
    refine ⟨(hf p hp).1, ?_⟩
    rw [mem_get hr (i := p.1) (q := p.2) hp]; rfl
  · rintro ⟨_, h⟩
    obtain ⟨q, hq⟩ := Option.isSome_iff_exists.1 h
    exact List.mem_map.2 ⟨(x, q), get_mem hq, rfl⟩
theorem ids_rise {Q : Qs} (hr : Rise Q) : (idsQ Q).Pairwise (fun a b => a < b) := List.pairwise_map.2 hr
theorem names_perm {Q : Qs} (hr : Rise Q) (hf : QF Q) {ss : List Int} (h : NamesOf Q ss) : ss.Perm (idsQ Q) := by
  refine (List.perm_ext_iff_of_nodup h.1 ?_).2 (fun x => by rw [h.2 x, ids_mem hr hf])
  exact (ids_rise hr).imp (fun {a b} h => by omega)
theorem sorted_ids {Q : Qs} (hr : Rise Q) {ss : List Int} (hp : ss.Perm (idsQ Q)) {d : Array Int} {n : Nat} (hn : n = ss.length) (h1 : PermIn 0 n ss.toArray d) (h2 : SortedIn ltInt 0 n d) : d.toList = idsQ Q := by
  have hs : d.size = n := by rw [h1.1]; simp [hn]
  have e1 : (d.extract 0 n).toList = d.toList := by rw [← hs]; simp
  have e2 : (ss.toArray.extract 0 n).toList = ss := by rw [hn]; simp
  have h3 := h1.2.2
  rw [e1, e2] at h3
  refine List.Perm.eq_of_pairwise (le := fun a b : Int => a ≤ b) (fun a b _ _ h1 h2 => by omega) ?_ ((ids_rise hr).imp (fun {a b} h => by omega)) (h3.trans hp)
  rw [List.pairwise_iff_getElem]
  intro i j hi hj hij
  have := h2 i j (by omega) hij (by rw [← hs]; simpa using hj)
  rw [getElem!_pos d i (by simpa using hi), getElem!_pos d j (by simpa using hj)] at this
  unfold ltInt at this
  simp at this
  simpa using this
theorem sorted_of (Bm b nn : Nat) (Q : Qs) (hr : Rise Q) (hf : QF Q) (hl : Q.length ≤ 1000) (w : World) (hBm : Bm < w.heap.size) (hm : w.cell? ⟨Bm, 0, none⟩ = some (.map (some b))) (hq : QMap w b nn Q) :
    Calls Try.prog 33 #[.func (.func 40) #[] #[.pointer (some ⟨Bm, 0, none⟩)]] w fun e w' => ∃ v : Value, e = .returned v ∧ w'.ownsRow w.heap.size 33 1 v Q.length (rowC wC (idsQ Q)) ∧ Below w.heap.size w w' := by
  have c1 := collect_of 5 (by omega) 40 #[.pointer (some ⟨Bm, 0, none⟩)] (enters_of Try.func40 (by kernel_rfl) rfl) (NamesOf Q) Q.length hl w (keysI_stops 3 (by omega) Bm b nn Q w hBm hm hq)
  go_enter Try.func33, Try.ntmps33
  go_upto_region 2 with (go_at_call 38; refine c1.mono ?_; clear c1; rintro e w1 ⟨v, ss, rfl, hS, hle, hrow, hnil, hB⟩)
  have hp := names_perm hr hf hS
  have hlen : ss.length = Q.length := by rw [hp.length_eq]; simp [idsQ]
  rcases hrow.2 with ⟨rfl, hz⟩ | ⟨g, cap, cur, rfl, hbase, hgb, _, _, _, _⟩
  · have hss : ss = [] := List.eq_nil_of_length_eq_zero hz
    have hQ : Q = [] := List.eq_nil_of_length_eq_zero (by omega)
    subst hss hQ
    have c2 := sort_nil w1
    go_wp2_with (go_at_call 39; refine c2.mono ?_; rintro e w2 ⟨rfl, hw2⟩; replace hw2 := hw2.symm; subst hw2)
    go_ret
    exact ⟨_, rfl, World.ownsRow_nil _ _ _ _, hB⟩
  · have hne : ss ≠ [] := fun e => by have := hnil.2 e; cases this
    have h1 : 1 ≤ ss.length := by
      rcases Nat.eq_zero_or_pos ss.length with e | e
      · exact absurd (List.eq_nil_of_length_eq_zero e) hne
      · exact e
    have hSR : SR w1 w1 w.heap.size g ss.length cap ss.toArray := ⟨by rw [List.toList_toArray, rowC_w]; exact hrow, Out.refl _ _, (Array.getElem?_eq_some_iff.1 hgb).1⟩
    have c2 := sort_of w1 w.heap.size g ss.length cap (by omega) h1 ss.toArray w1 hSR
    have HH : Hid (ss.Perm (idsQ Q) ∧ ss.length = Q.length) := ⟨hp, hlen⟩
    clear hlen hp hle hnil hS hne h1 hSR
    go_wp2_with (go_at_call 39; refine c2.mono ?_; clear c2; rintro e w2 ⟨rfl, d, p1, p2, hS2⟩)
    go_ret
    obtain ⟨hp, hlen⟩ := HH.out
    refine ⟨_, rfl, ?_, hB.os ▸ hS2.out.os, hB.tape ▸ hS2.out.tape, hB.output ▸ hS2.out.output, Nat.le_trans hB.size hS2.out.size, fun k hk => (hS2.out.block k (Nat.lt_of_lt_of_le hk hB.size) ?_).trans (hB.block k hk)⟩
    · rw [← sorted_ids hr hp rfl p1 p2, ← hlen]; exact hS2.own
    · intro e
      have e2 : k = g := e
      omega
end Go.Proofs.Ytkhldjpghjmgfaa
