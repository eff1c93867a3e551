/- Lists of places that are appended; what one call of the document's All does. -/
import Derived.Test.YtconfkgadmjhhaaLmX
namespace Go.Proofs.Ytconfkgadmjhhaa
open Go.RowKit
set_option linter.unusedVariables false
set_option maxRecDepth 4000

/-- Places that lie in the world, from some place of a block on. -/
def PlO (w : World) (a : Option Addr) (n : Nat) (L : List Pl) : Prop :=
  L.length = n ∧ (n = 0 ∨ ∃ g off, a = some ⟨g, off, none⟩ ∧ ∀ i x, L[i]? = some x → w.cell? ⟨g, off + i * 4, none⟩ = some (.int .u32 x.1.1) ∧ w.cell? ⟨g, off + i * 4 + 1, none⟩ = some (.int .u64 x.1.2) ∧ w.cell? ⟨g, off + i * 4 + 2, none⟩ = some (.int .i64 x.2.1) ∧ w.cell? ⟨g, off + i * 4 + 3, none⟩ = some (.int .i64 x.2.2))
theorem PlIn.o {w : World} {a : Option Addr} {n : Nat} {L : List Pl} (h : PlIn w a n L) : PlO w a n L := by
  obtain ⟨h1, h2⟩ := h
  refine ⟨h1, h2.imp id ?_⟩
  rintro ⟨g, rfl, hc⟩
  exact ⟨g, 0, rfl, fun i x hx => by simpa using hc i x hx⟩
theorem own_nil {w : World} {base : Nat} {a : Option Addr} {n c : Nat} {zs : List Value} (h : w.ownsRow base 34 4 (.slice a n c) n zs) : a = none → n = 0 ∧ c = 0 := by
  rintro rfl
  rcases h.2 with ⟨hv, hn⟩ | ⟨g, cap, cur, hv, _⟩
  · cases hv; exact ⟨rfl, rfl⟩
  · cases hv
theorem app_list {W : World} {B : Nat} {a : Option Addr} {n cc : Nat} {xs : List Pl} (h : W.ownsRow B 34 4 (.slice a n cc) n (plC xs)) {b : Option Addr} {m dd : Nat} {ys : List Pl} (hin : PlO W b m ys) (hnil : b = none → m = 0 ∧ dd = 0) (hn : n + m ≤ 100000) (hB : B ≤ W.heap.size) :
    ∃ a' cc' W', (Builtin.append_ #[43, 43] 43 #[.slice a n cc, .slice b m dd]).run Try.prog W = .ok (.slice a' (n + m) cc') W' ∧
      W'.ownsRow B 34 4 (.slice a' (n + m) cc') (n + m) (plC (xs ++ ys)) ∧ W.grownBy W' (Value.slice a n cc).ownBlock := by
  obtain ⟨i0, hi, hz0, hz1, hz2⟩ := info_parts Try.zero_place
  obtain ⟨hl, hc⟩ := hin
  cases b with
  | none =>
    obtain ⟨rfl, rfl⟩ := hnil rfl
    have : ys = [] := List.length_eq_zero_iff.1 hl
    subst this
    have hrun := run_append_owned_none (P := Try.prog) (w := W) B 43 43 34 i0 4 Try.underlying43 hi _ n _ h
    exact ⟨a, cc, W, hrun, by simpa using h, ⟨rfl, rfl, rfl, Nat.le_refl _, fun _ _ _ => rfl⟩⟩
  | some ad =>
    have hcell : ∀ j u, (plC ys)[j]? = some u → W.cell? (ad.add j) = some u := by
      intro j u hj
      have hjl : j < m * 4 := by have := (List.getElem?_eq_some_iff.1 hj).1; rw [plC_length, hl] at this; exact this
      obtain ⟨g, off, ha, hcs⟩ := hc.resolve_left (by omega)
      cases ha
      have hi4 : j / 4 < ys.length := by omega
      have hx : ys[j / 4]? = some ys[j / 4] := List.getElem?_eq_getElem hi4
      have hp := plC_at ys (j / 4) _ (j % 4) hx (by omega)
      have e : j / 4 * 4 + j % 4 = j := by omega
      rw [e, hj] at hp
      obtain ⟨d0, d1, d2, d3⟩ := hcs _ _ hx
      rw [Addr.add_mid]
      have h4 : j % 4 = 0 ∨ j % 4 = 1 ∨ j % 4 = 2 ∨ j % 4 = 3 := by omega
      rcases h4 with h4 | h4 | h4 | h4 <;> rw [h4] at hp e <;> rw [hp]
      · rw [show off + j = off + j / 4 * 4 by omega]; exact d0
      · rw [show off + j = off + j / 4 * 4 + 1 by omega]; exact d1
      · rw [show off + j = off + j / 4 * 4 + 2 by omega]; exact d2
      · rw [show off + j = off + j / 4 * 4 + 3 by omega]; exact d3
    obtain ⟨v', W', h1, h2, h3, h4⟩ := run_app (ty := 43) Try.underlying43 Try.zero_place rfl (by decide) (by decide) (own_zero h) ad m dd (plC ys) (by rw [plC_length, hl]) hcell (fun u hu => by
      unfold plC at hu
      obtain ⟨x, _, hx⟩ := List.mem_flatMap.1 hu
      exact plL_one x u hx) (by omega)
    obtain ⟨a', c', rfl⟩ := own_slice h2
    rw [plC_append] at h2
    refine ⟨a', c', W', h1, own_base h2 (fun g hg => ?_), h3⟩
    rcases h4 with h4 | h4
    · exact (h.lt g (by rw [← h4]; exact hg)).1
    · have := h4 g hg; omega
theorem dmAll_of (r : Nat) (S : List Pl) (w : World) (h : LmD w r S) (hS : S.length ≤ 10000) :
    Calls Try.prog 22 #[.pointer (some ⟨r, 0, none⟩)] w fun e w' => ∃ a cc, e = .returned (.slice a S.length cc) ∧ PlIn w' a S.length S ∧ Below w.heap.size w w' := by
  obtain ⟨a, cc, hb, hr⟩ := h.list
  have c0 := hb.cell 0
  simp only [List.getElem?_cons_zero] at c0
  have hnone : w.ownsRow w.heap.size 34 4 (.slice none 0 0) 0 (plC []) := ⟨rfl, .inl ⟨rfl, rfl⟩⟩
  obtain ⟨a', cc', W', hrun, hO, hg⟩ := app_list hnone (own_pl hr).o (own_nil hr) (by omega) (Nat.le_refl _)
  rw [Nat.zero_add, List.nil_append] at hO
  rw [Nat.zero_add] at hrun
  have HO : Hid (PlIn W' a' S.length S ∧ Below w.heap.size w W') := ⟨own_pl hO, (Below.refl _ _).grown hg (Nat.le_refl _) (fun k hk => by cases hk)⟩
  clear h hb hr hnone hO hg
  go_enter Try.func22, Try.ntmps22
  go_wp2_with (first | (at_builtin; refine wpList_append_run rfl _ _ 43 43 rfl _ _ rfl rfl _ _ hrun ?_; clear hrun) | go_in)
  go_ret
  exact ⟨a', cc', rfl, HO.out⟩
end Go.Proofs.Ytconfkgadmjhhaa
