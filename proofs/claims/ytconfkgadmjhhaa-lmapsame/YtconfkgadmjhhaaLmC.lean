/- What one call of Count does. -/
import Derived.Test.YtconfkgadmjhhaaLmP
namespace Go.Proofs.Ytconfkgadmjhhaa
open Go.RowKit
set_option linter.unusedVariables false
set_option maxRecDepth 4000

theorem names_nodup {S : List Pl} (g : Good S) : (S.map (·.1)).Nodup := by
  rw [List.Nodup, List.pairwise_map]
  exact g.names
theorem spots_nodup {S : List Pl} (g : Good S) : (S.map (·.2)).Nodup := by
  rw [List.Nodup, List.pairwise_map]
  exact g.apart
theorem names_perm {S : List Pl} (g : Good S) {xs : List Pr} (hn : xs.Nodup) (hm : ∀ x, x ∈ xs ↔ kN.ok x ∧ ∃ s, (x, s) ∈ S) : xs.Perm (S.map (·.1)) :=
  perm_of_mem hn (names_nodup g) (fun x => by
    rw [hm, List.mem_map]
    constructor
    · rintro ⟨_, s, h⟩; exact ⟨_, h, rfl⟩
    · rintro ⟨p, hp, rfl⟩; exact ⟨fitsN_ok (g.fits p hp).1, p.2, hp⟩)
theorem cnt_of_names {S : List Pl} {xs : List Pr} (h : xs.Perm (S.map (·.1))) (t : Int) : (xs.filter (fun x => x.1 == t)).length = cntS S t := by
  rw [(h.filter _).length_eq, List.filter_map, List.length_map]
  rfl
def pairN (x : Pr) : Value := .agg #[.int .u32 x.1, .int .u64 x.2]
def pairS (x : Pr) : Value := .agg #[.int .i64 x.1, .int .i64 x.2]
theorem invKN (key : Value) (kl : Lit) (h : keyOf Try.prog 63 key = some kl) : ∃ x, key = (fun x : Pr => Value.agg #[.int .u32 x.1, .int .u64 x.2]) x := by
  obtain ⟨x, hx, _⟩ := keyN_inv h
  exact ⟨x, hx⟩
theorem invKS (key : Value) (kl : Lit) (h : keyOf Try.prog 60 key = some kl) : ∃ x, key = (fun x : Pr => Value.agg #[.int .i64 x.1, .int .i64 x.2]) x := by
  obtain ⟨x, hx, _⟩ := keyS_inv h
  exact ⟨x, hx⟩
theorem invV (v : Value) (y : DataW Value × List MemPlace) (h : heldR v = some y) : ∃ c, v = (fun v : Value => v) c := ⟨v, rfl⟩
theorem keyN_of {x : Pr} {kl : Lit} (h : keyOf Try.prog 63 (.agg #[.int .u32 x.1, .int .u64 x.2]) = some kl) : kN.ok x ∧ kl = kN.kl x := by
  obtain ⟨y, hy, h1, h2⟩ := keyN_inv h
  have : x = y := encP_inj hy
  subst this
  exact ⟨h1, h2⟩
theorem keyS_of {x : Pr} {kl : Lit} (h : keyOf Try.prog 60 (.agg #[.int .i64 x.1, .int .i64 x.2]) = some kl) : kS.ok x ∧ kl = kS.kl x := by
  obtain ⟨y, hy, h1, h2⟩ := keyS_inv h
  have : x = y := encP_inj hy
  subst this
  exact ⟨h1, h2⟩
theorem filter_snoc {α : Type} (f : α → Bool) (xs : List α) (x : α) : ((xs ++ [x]).filter f).length = (xs.filter f).length + (if f x then 1 else 0) := by
  rw [List.filter_append, List.length_append]
  by_cases h : f x = true <;> simp [h]
def cN (t : Int) (xs : List Pr) : Nat := (xs.filter (fun x => x.1 == t)).length
theorem cN_le (t : Int) (xs : List Pr) : cN t xs ≤ xs.length := List.length_filter_le _ _
theorem cN_snoc (t : Int) (xs : List Pr) (x : Pr) : cN t (xs ++ [x]) = cN t xs + (if x.1 == t then 1 else 0) := filter_snoc _ xs x

theorem mCount_of (p b1 b2 : Nat) (S : List Pl) (c : Nat) (t : Int) (w : World) (h : LmP w p b1 b2 S c) (hc : c < 100000) :
    Calls Try.prog 16 #[.pointer (some ⟨p, 0, none⟩), .int .u32 t] w fun e w' => e = .returned (.int .u64 (cntS S t : Nat)) ∧ Below w.heap.size w w' := by
  obtain ⟨D, hown, hD⟩ := h.m1
  have c0 := h.hp.cell 0
  simp only [List.getElem?_cons_zero] at c0
  have HD : Hid (DIs kN D (fun n s => (n, s) ∈ S)) := hD
  have HG : Hid (Good S) := h.good
  have hb1 := h.m1.lt
  clear hD h
  go_enter Try.func16, Try.ntmps16
  go_wp2_with (first | (at_range; refine wpList_range_own _ rfl _ 54 rfl 63 60 okN.keyed Try.underlying54 _ b1 c D rfl hown ?_; intro w0 hrg0 hg0 hs0) | go_in)
  go_frame
  go_loopw [5, 6] (fun v _ wr => ∃ left cnt xs, wr.ranges Try.prog 63 heldR b1 w.heap.size c D left cnt ∧ Coll kN D left xs ∧ v = .int .u64 (cN t xs : Nat) ∧ Below w.heap.size w wr ∧ xs.length + cnt ≤ c)
    (fun _ _ wr => wr.rangeLeft b1 w.heap.size)
  case atStart => exact ⟨_, _, [], hrg0, Coll.start kN D, rfl, (Below.refl _ _).grown hg0 (Nat.le_refl _) (fun k hk => by cases hk), by have := hown.size_le; simpa using this⟩
  case round =>
    obtain ⟨left, cnt, xs, hrg, hC, rfl, hB, hle⟩ := hrel
    have HC : Hid (Coll kN D left xs ∧ Below w.heap.size w wr) := ⟨hC, hB⟩
    clear hC hB hrg0 hg0 hs0
    have hcn := cN_le t xs
    go_wp2_with (first
      | (at_next; refine wpList_next_ranges _ rfl _ rfl 63 okN.keyed heldR (fun x : Pr => Value.agg #[.int .u32 x.1, .int .u64 x.2]) (fun v : Value => v) invKN invV b1 w.heap.size c _ _ _ rfl hrg ?_ ?_)
      | go_in)
    · intro _ hl0
      go_wp2
      go_ret
      refine ⟨?_, HC.out.2⟩
      have hp := names_perm HG.out HC.out.1.1 (fun x => HC.out.1.all HD.out hl0 x)
      have : cN t xs = cntS S t := cnt_of_names hp t
      rw [← this]; rfl
    · intro xa xb v kl ya yb w1 cnt1 hkey hlx hv hat hrg1 hlt hg1 hs1 hen
      obtain ⟨x, hx0⟩ : ∃ x : Pr, x = (xa, xb) := ⟨_, rfl⟩
      obtain rfl : xa = x.1 := by rw [hx0]
      obtain rfl : xb = x.2 := by rw [hx0]
      clear hx0
      obtain ⟨hkx, rfl⟩ := keyN_of hkey
      have hB1 := HC.out.2.grown hg1 HC.out.2.size (fun k hk => by cases hk; exact Nat.le_refl _)
      have HC1 : Hid (Coll kN D (fun z => left z && !z.sameKey (kN.kl x)) (xs ++ [x]) ∧ Below w.heap.size w w1 ∧ w1.ranges Try.prog 63 heldR b1 w.heap.size c D (fun z => left z && !z.sameKey (kN.kl x)) cnt1) := ⟨HC.out.1.step okN hkx hlx hat, hB1, hrg1⟩
      have HR : Hid (wr.ranges Try.prog 63 heldR b1 w.heap.size c D left cnt) := hrg
      clear HC hkey hlx hv hat hrg1 hg1 hB1 hrg
      by_cases hx : x.1 = t
      · go_wp2
        go_roundw
        case rel =>
          refine ⟨_, cnt1, xs ++ [x], HC1.out.2.2.alloc _, HC1.out.1, ?_, HC1.out.2.1.alloc HC1.out.2.1.size _, by simp; omega⟩
          rw [cN_snoc]
          simp [hx]
        case measure => rw [(HC1.out.2.2.alloc _).left_eq, HR.out.left_eq]; exact hlt
      · go_wp2
        go_roundw
        case rel =>
          refine ⟨_, cnt1, xs ++ [x], HC1.out.2.2.alloc _, HC1.out.1, ?_, HC1.out.2.1.alloc HC1.out.2.1.size _, by simp; omega⟩
          rw [cN_snoc]
          simp [hx]
        case measure => rw [(HC1.out.2.2.alloc _).left_eq, HR.out.left_eq]; exact hlt
end Go.Proofs.Ytconfkgadmjhhaa
