/- Texts of this seat, one behind the other: LmX, LmY, LmV. -/
import Derived.Test.YtncnkpnfmbgifaaGreatQ11
import Derived.Test.YtncnkpnfmbgifaaGreatP20
import Derived.BigQuiet
import Derived.Test.YtncnkpnfmbgifaaGreatP9
/- What one call of the document's Get, At, Count and All, and of SamePlaces, does. -/
namespace Go.Proofs.YtncnkpnfmbgifaaGreat
open Go.RowKit
set_option linter.unusedVariables false
set_option maxRecDepth 4000

theorem LmD.list {w : World} {r : Nat} {S : List Pl} (h : LmD w r S) : ∃ a cc, Blk w r [.slice a S.length cc] 152 ∧ w.ownsRow 0 51 4 (.slice a S.length cc) S.length (plC S) := by
 obtain ⟨a, m, cc, hb, hr⟩ := h.row
 have hm : S.length = m := (own_pl hr).1
 subst hm
 exact ⟨a, cc, hb, hr⟩
theorem find_stop {α : Type} (f : α → Bool) (S : List α) (k : Nat) (y : α) (hy : S[k]? = some y) (hn : ∀ q ∈ S.take k, f q = false) (hf : f y = true) : S.find? f = some y := by
 have hk : k < S.length := (List.getElem?_eq_some_iff.1 hy).1
 have e : S = S.take k ++ y :: S.drop (k + 1) := by
  have h1 := List.take_append_drop k S
  rw [List.drop_eq_getElem_cons hk, (List.getElem?_eq_some_iff.1 hy).2] at h1
  exact h1.symm
 rw [e, List.find?_append, List.find?_eq_none.2 (fun q hq => by simp [hn q hq])]
 simp [hf]
theorem find_end {α : Type} (f : α → Bool) (S : List α) (k : Nat) (hk : S.length ≤ k) (hn : ∀ q ∈ S.take k, f q = false) : S.find? f = none := by
 rw [List.take_of_length_le hk] at hn
 exact List.find?_eq_none.2 (fun q hq => by simp [hn q hq])
theorem none_step {α : Type} (f : α → Bool) (S : List α) (k : Nat) (y : α) (hy : S[k]? = some y) (hn : ∀ q ∈ S.take k, f q = false) (hf : f y = false) : ∀ q ∈ S.take (k + 1), f q = false := by
 have hk : k < S.length := (List.getElem?_eq_some_iff.1 hy).1
 rw [List.take_succ_eq_append_getElem hk, (List.getElem?_eq_some_iff.1 hy).2]
 intro q hq
 rcases List.mem_append.1 hq with h | h
 ·exact hn q h
 ·have : q = y := by simpa using h
  rw [this]; exact hf
set_option maxHeartbeats 2000000 in
theorem dmGet_of (r : Nat) (S : List Pl) (n : Pr) (w : World) (h : LmD w r S) (hS : S.length ≤ 10000) :
  Calls Tryz.prog 89 #[.pointer (some ⟨r, 0, none⟩), .int .u32 n.1, .int .u64 n.2] w fun e w' => e = .returned (.tuple #[.agg #[.int .i64 ((getS S n).getD (0, 0)).1, .int .i64 ((getS S n).getD (0, 0)).2], .bool (getS S n).isSome]) ∧ Below w.heap.size w w' := by
 obtain ⟨a, cc, hb, hr⟩ := h.list
 have HR : Hid (Blk w r [.slice a S.length cc] 152 ∧ w.ownsRow 0 51 4 (.slice a S.length cc) S.length (plC S)) := ⟨hb, hr⟩
 clear h hb hr
 go_enter Tryz.func89, Tryz.ntmps89
 go_wp2
 go_loopw [8] (fun i wr => ∃ k : Nat, k ≤ S.length ∧ i = .int .i64 k ∧ (∀ q ∈ S.take k, (q.1 == n) = false) ∧ wr = w.alloc (.cells #[.int .i64 0, .int .i64 0] 49)) (fun i _ => S.length - (intOf i).toNat)
 case atStart => exact ⟨0, by omega, rfl, by simp, rfl⟩
 case round =>
  obtain ⟨k, hk, rfl, hno, rfl⟩ := hrel
  have bel : Below w.heap.size w (w.alloc (.cells #[.int .i64 0, .int .i64 0] 49)) := (Below.refl _ _).alloc (Nat.le_refl _) _
  have c0 := (HR.out.1.below bel HR.out.1.lt).cell 0
  simp only [List.getElem?_cons_zero] at c0
  have HN : Hid (∀ q ∈ S.take k, (q.1 == n) = false) := hno
  clear hno
  by_cases hlt : k < S.length
  ·have hlt' : (k : Int) < S.length := by omega
   obtain ⟨y, hy⟩ : ∃ y, S[k]? = some y := ⟨_, List.getElem?_eq_getElem hlt⟩
   obtain ⟨g, rfl, hc⟩ := (own_pl HR.out.2).2.resolve_left (by omega)
   obtain ⟨y0, y1, y2, y3⟩ := hc k y hy
   have y0 := (bel.cell (old_block y0)).trans y0
   have y1 := (bel.cell (old_block y1)).trans y1
   have y2 := (bel.cell (old_block y2)).trans y2
   have y3 := (bel.cell (old_block y3)).trans y3
   have HY : Hid (S[k]? = some y) := hy
   clear hc bel hy
   by_cases hn : y.1 = n
   ·have e1 : (y.1.1 == n.1) = true := by rw [hn]; simp
    have e2 : (y.1.2 == n.2) = true := by rw [hn]; simp
    have hgt : getS S n = some y.2 := by
     unfold getS
     rw [find_stop _ S k y HY.out HN.out (by simp [hn])]; rfl
    have HG : Hid (getS S n = some y.2) := hgt
    have H : Hid (Blk (w.alloc (.cells #[.int .i64 y.2.1, .int .i64 y.2.2] 49)) w.heap.size (prL .i64 .i64 y.2) 49 ∧ Below w.heap.size w (w.alloc (.cells #[.int .i64 y.2.1, .int .i64 y.2.2] 49))) := ⟨Blk.new' rfl rfl, (Below.refl _ _).alloc (Nat.le_refl _) _⟩
    clear hn hgt HN HY
    go_wp2
    refine bodyPost_ret (results_cell_two (p := 6) (u := 7) (ty := 49) rfl _ _ _ _ _ _ rfl H.out.1 Tryz.underlying49 rfl Tryz.info_addr _ rfl) rfl ⟨?_, H.out.2⟩
    rw [HG.out]; rfl
   ·have hne : (y.1 == n) = false := by simpa using hn
    have HN2 : Hid (∀ q ∈ S.take (k + 1), (q.1 == n) = false) := none_step _ S k y HY.out HN.out hne
    by_cases ht : y.1.1 = n.1
    ·have e1 : (y.1.1 == n.1) = true := by simpa using ht
     have e2 : (y.1.2 == n.2) = false := by have := pr_ne.1 hn; simp only [beq_eq_false_iff_ne]; omega
     clear ht hn hne HN HY
     go_wp2
     go_roundw
     case rel => exact ⟨k + 1, by omega, by go_num, HN2.out, trivial⟩
     case measure => simp [intOf]; omega
    ·have e1 : (y.1.1 == n.1) = false := by simpa using ht
     clear ht hn hne HN HY
     go_wp2
     go_roundw
     case rel => exact ⟨k + 1, by omega, by go_num, HN2.out, trivial⟩
     case measure => simp [intOf]; omega
  ·have hge : (S.length : Int) ≤ k := by omega
   have hgt : getS S n = none := by
    unfold getS
    rw [find_end _ S k (by omega) HN.out]; rfl
   have HG : Hid (getS S n = none) := hgt
   have H : Hid (Blk (w.alloc (.cells #[.int .i64 0, .int .i64 0] 49)) w.heap.size (prL .i64 .i64 (0, 0)) 49 ∧ Below w.heap.size w (w.alloc (.cells #[.int .i64 0, .int .i64 0] 49))) := ⟨Blk.new' rfl rfl, bel⟩
   clear hgt HN bel
   go_wp2
   refine bodyPost_ret (results_cell_two (p := 6) (u := 7) (ty := 49) rfl _ _ _ _ _ _ rfl H.out.1 Tryz.underlying49 rfl Tryz.info_addr _ rfl) rfl ⟨?_, H.out.2⟩
   rw [HG.out]; rfl
theorem samePlaces_of (a b : Option Addr) (n c1 c2 : Nat) (L : List Pl) (w : World) (h1 : PlIn w a n L) (h2 : PlIn w b n L) (hn : n ≤ 100000) :
  Calls Tryz.prog 101 #[.slice a n c1, .slice b n c2] w fun e w' => e = .returned (.bool true) ∧ Below w.heap.size w w' := by
 have HP : Hid (PlIn w a n L ∧ PlIn w b n L) := ⟨h1, h2⟩
 have hl := h1.1
 clear h1 h2
 go_enter Tryz.func101, Tryz.ntmps101
 go_wp2
 go_loopw [5] (fun i wr => ∃ k j : Nat, k ≤ n ∧ i = .int .i64 k ∧ wr = w.drewN j) (fun i _ => n - (intOf i).toNat)
 case atStart => exact ⟨0, 0, by omega, rfl, rfl⟩
 case round =>
  obtain ⟨k, j, hk, rfl, rfl⟩ := hrel
  by_cases hlt : k < n
  ·have hlt' : (k : Int) < n := by omega
   obtain ⟨y, hy⟩ : ∃ y, L[k]? = some y := ⟨_, List.getElem?_eq_getElem (by omega)⟩
   obtain ⟨g, rfl, hc⟩ := HP.out.1.2.resolve_left (by omega)
   obtain ⟨g', rfl, hc'⟩ := HP.out.2.2.resolve_left (by omega)
   obtain ⟨y0, y1, y2, y3⟩ := hc k y hy
   obtain ⟨z0, z1, z2, z3⟩ := hc' k y hy
   have y0 : ∀ i, (w.drewN i).cell? ⟨g, k * 4, none⟩ = some (.int .u32 y.1.1) := fun i => y0
   have y1 : ∀ i, (w.drewN i).cell? ⟨g, k * 4 + 1, none⟩ = some (.int .u64 y.1.2) := fun i => y1
   have y2 : ∀ i, (w.drewN i).cell? ⟨g, k * 4 + 2, none⟩ = some (.int .i64 y.2.1) := fun i => y2
   have y3 : ∀ i, (w.drewN i).cell? ⟨g, k * 4 + 3, none⟩ = some (.int .i64 y.2.2) := fun i => y3
   have z0 : ∀ i, (w.drewN i).cell? ⟨g', k * 4, none⟩ = some (.int .u32 y.1.1) := fun i => z0
   have z1 : ∀ i, (w.drewN i).cell? ⟨g', k * 4 + 1, none⟩ = some (.int .u64 y.1.2) := fun i => z1
   have z2 : ∀ i, (w.drewN i).cell? ⟨g', k * 4 + 2, none⟩ = some (.int .i64 y.2.1) := fun i => z2
   have z3 : ∀ i, (w.drewN i).cell? ⟨g', k * 4 + 3, none⟩ = some (.int .i64 y.2.2) := fun i => z3
   have hq := fun W => neqP y y W
   simp only [bne_self_eq_false] at hq
   clear hc hc' hy
   go_wp2_with fail
   go_quiet (fail)
   try simp only [World.drewN_drewN]
   go_wp2
   go_roundw
   case rel => exact ⟨k + 1, _, by omega, by go_num, rfl⟩
   case measure => simp [intOf]; omega
  ·have hge : (n : Int) ≤ k := by omega
   go_wp2
   go_ret
   exact ⟨rfl, Go.below_drewN (Below.refl _ _) _⟩
end Go.Proofs.YtncnkpnfmbgifaaGreat

/- Lists of places that are appended; what one call of the document's All does. -/
namespace Go.Proofs.YtncnkpnfmbgifaaGreat
open Go.RowKit
set_option linter.unusedVariables false
set_option maxRecDepth 4000

def PlO (w : World) (a : Option Addr) (n : Nat) (L : List Pl) : Prop :=
 L.length = n ∧ (n = 0 ∨ ∃ g off, a = some ⟨g, off, none⟩ ∧ ∀ i x, L[i]? = some x → w.cell? ⟨g, off + i * 4, none⟩ = some (.int .u32 x.1.1) ∧ w.cell? ⟨g, off + i * 4 + 1, none⟩ = some (.int .u64 x.1.2) ∧ w.cell? ⟨g, off + i * 4 + 2, none⟩ = some (.int .i64 x.2.1) ∧ w.cell? ⟨g, off + i * 4 + 3, none⟩ = some (.int .i64 x.2.2))
theorem PlIn.o {w : World} {a : Option Addr} {n : Nat} {L : List Pl} (h : PlIn w a n L) : PlO w a n L := by
 obtain ⟨h1, h2⟩ := h
 refine ⟨h1, h2.imp id ?_⟩
 rintro ⟨g, rfl, hc⟩
 exact ⟨g, 0, rfl, fun i x hx => by simpa using hc i x hx⟩
theorem lown_nil {w : World} {base : Nat} {a : Option Addr} {n c : Nat} {zs : List Value} (h : w.ownsRow base 51 4 (.slice a n c) n zs) : a = none → n = 0 ∧ c = 0 := by
 rintro rfl
 rcases h.2 with ⟨hv, hn⟩ | ⟨g, cap, cur, hv, _⟩
 ·cases hv; exact ⟨rfl, rfl⟩
 ·cases hv
theorem app_list {W : World} {B : Nat} {a : Option Addr} {n cc : Nat} {xs : List Pl} (h : W.ownsRow B 51 4 (.slice a n cc) n (plC xs)) {b : Option Addr} {m dd : Nat} {ys : List Pl} (hin : PlO W b m ys) (hnil : b = none → m = 0 ∧ dd = 0) (hn : n + m ≤ 100000) (hB : B ≤ W.heap.size) :
  ∃ a' cc' W', (Builtin.append_ #[38, 38] 38 #[.slice a n cc, .slice b m dd]).run Tryz.prog W = .ok (.slice a' (n + m) cc') W' ∧
   W'.ownsRow B 51 4 (.slice a' (n + m) cc') (n + m) (plC (xs ++ ys)) ∧ W.grownBy W' (Value.slice a n cc).ownBlock := by
 obtain ⟨i0, hi, hz0, hz1, hz2⟩ := info_parts Tryz.zero_place
 obtain ⟨hl, hc⟩ := hin
 cases b with
 | none =>
  obtain ⟨rfl, rfl⟩ := hnil rfl
  have : ys = [] := List.length_eq_zero_iff.1 hl
  subst this
  have hrun := run_append_owned_none (P := Tryz.prog) (w := W) B 38 38 51 i0 4 Tryz.underlying38 hi _ n _ h
  exact ⟨a, cc, W, hrun, by simpa using h, ⟨rfl, rfl, rfl, Nat.le_refl _, fun _ _ _ => rfl⟩⟩
 | some ad =>
  have hcell : ∀ j u, (plC ys)[j]? = some u → W.cell? (ad.add j) = some u := by
   intro j u hj
   have hjl : j < m * 4 := by have := (List.getElem?_eq_some_iff.1 hj).1; rw [plC_length, hl] at this; exact this
   obtain ⟨g, off, ha, hcs⟩ := hc.resolve_left (by omega)
   cases ha
   have hi4 : j / 4 < ys.length := by omega
   have hx : ys[j / 4]? = some ys[j / 4] := List.getElem?_eq_getElem hi4
   have hp := plC_at ys (j / 4) _ (j % 4) hx (by omega)
   have e : j / 4 * 4 + j % 4 = j := by omega
   rw [e, hj] at hp
   obtain ⟨d0, d1, d2, d3⟩ := hcs _ _ hx
   rw [Addr.add_mid]
   have h4 : j % 4 = 0 ∨ j % 4 = 1 ∨ j % 4 = 2 ∨ j % 4 = 3 := by omega
   rcases h4 with h4 | h4 | h4 | h4 <;> rw [h4] at hp e <;> rw [hp]
   ·rw [show off + j = off + j / 4 * 4 by omega]; exact d0
   ·rw [show off + j = off + j / 4 * 4 + 1 by omega]; exact d1
   ·rw [show off + j = off + j / 4 * 4 + 2 by omega]; exact d2
   ·rw [show off + j = off + j / 4 * 4 + 3 by omega]; exact d3
  obtain ⟨v', W', h1, h2, h3, h4⟩ := run_app (ty := 38) Tryz.underlying38 Tryz.zero_place rfl (by decide) (by decide) (own_zero h) ad m dd (plC ys) (by rw [plC_length, hl]) hcell (fun u hu => by
   unfold plC at hu
   obtain ⟨x, _, hx⟩ := List.mem_flatMap.1 hu
   exact plL_one x u hx) (by omega)
  obtain ⟨a', c', rfl⟩ := own_slice h2
  rw [plC_append] at h2
  refine ⟨a', c', W', h1, own_base h2 (fun g hg => ?_), h3⟩
  rcases h4 with h4 | h4
  ·exact (h.lt g (by rw [← h4]; exact hg)).1
  ·have := h4 g hg; omega
theorem dmAll_of (r : Nat) (S : List Pl) (w : World) (h : LmD w r S) (hS : S.length ≤ 10000) :
  Calls Tryz.prog 97 #[.pointer (some ⟨r, 0, none⟩)] w fun e w' => ∃ a cc, e = .returned (.slice a S.length cc) ∧ PlIn w' a S.length S ∧ Below w.heap.size w w' := by
 obtain ⟨a, cc, hb, hr⟩ := h.list
 have c0 := hb.cell 0
 simp only [List.getElem?_cons_zero] at c0
 have hnone : w.ownsRow w.heap.size 51 4 (.slice none 0 0) 0 (plC []) := ⟨rfl, .inl ⟨rfl, rfl⟩⟩
 obtain ⟨a', cc', W', hrun, hO, hg⟩ := app_list hnone (own_pl hr).o (lown_nil hr) (by omega) (Nat.le_refl _)
 rw [Nat.zero_add, List.nil_append] at hO
 rw [Nat.zero_add] at hrun
 have HO : Hid (PlIn W' a' S.length S ∧ Below w.heap.size w W') := ⟨own_pl hO, (Below.refl _ _).grown hg (Nat.le_refl _) (fun k hk => by cases hk)⟩
 clear h hb hr hnone hO hg
 go_enter Tryz.func97, Tryz.ntmps97
 go_wp2_with (first | (at_builtin; refine lwpList_append_run rfl _ _ 38 38 rfl _ _ rfl rfl _ _ hrun ?_; clear hrun) | go_in)
 go_ret
 exact ⟨a', cc', rfl, HO.out⟩
end Go.Proofs.YtncnkpnfmbgifaaGreat

/- What one call of the document's In does. -/
namespace Go.Proofs.YtncnkpnfmbgifaaGreat
open Go.RowKit
set_option linter.unusedVariables false
set_option maxRecDepth 4000

theorem isIn_start (S : List Pl) (z : Int) : IsIn (S.take 0) z [] := ⟨.nil, fun p => by simp⟩
theorem take_more {S : List Pl} {i : Nat} {y : Pl} (hy : S[i]? = some y) : S.take (i + 1) = S.take i ++ [y] := by
 have hk : i < S.length := (List.getElem?_eq_some_iff.1 hy).1
 rw [List.take_succ_eq_append_getElem hk]; congr 2; exact (List.getElem?_eq_some_iff.1 hy).2
theorem IsIn.no {S : List Pl} {z : Int} {i : Nat} {o : List Pl} {y : Pl} (h : IsIn (S.take i) z o) (hy : S[i]? = some y) (hz : y.2.1 ≠ z) : IsIn (S.take (i + 1)) z o := by
 refine ⟨h.1, fun p => ?_⟩
 rw [h.2, take_more hy, List.mem_append]
 constructor
 ·rintro ⟨h1, h2⟩; exact ⟨.inl h1, h2⟩
 ·rintro ⟨h1 | h1, h2⟩
  ·exact ⟨h1, h2⟩
  ·have : p = y := by simpa using h1
   rw [this] at h2
   exact absurd h2 hz
theorem IsIn.yes {S : List Pl} (g : Good S) {z : Int} {i : Nat} {o : List Pl} {y : Pl} (h : IsIn (S.take i) z o) (hy : S[i]? = some y) (hz : y.2.1 = z) {k : Nat} (hk : k ≤ o.length) (hhi : ∀ m x, k ≤ m → o[m]? = some x → y.2.2 < x.2.2) (hlo : ∀ x, 0 < k → o[k - 1]? = some x → x.2.2 ≤ y.2.2) : IsIn (S.take (i + 1)) z (o.take k ++ [y] ++ o.drop k) := by
 have hyS : y ∈ S := List.mem_of_getElem? hy
 have hne : ∀ x ∈ o, x.2 ≠ y.2 := by
  intro x hx e
  have hxS := ((h.2 x).1 hx).1
  have hil : i < S.length := (List.getElem?_eq_some_iff.1 hy).1
  have hap := g.apart
  rw [show S = S.take i ++ y :: S.drop (i + 1) from by
   have h1 := List.take_append_drop i S
   rw [List.drop_eq_getElem_cons hil, (List.getElem?_eq_some_iff.1 hy).2] at h1
   exact h1.symm] at hap
  exact (List.pairwise_append.1 hap).2.2 x hxS y (by simp) e
 have hzo : ∀ x ∈ o, x.2.1 = z := fun x hx => ((h.2 x).1 hx).2
 have hup := h.1
 have hfront : ∀ x ∈ o.take k, ltP x.2 y.2 = true := by
  intro x hx
  obtain ⟨m, hm⟩ := List.getElem?_of_mem hx
  have hmk : m < k := by have := (List.getElem?_eq_some_iff.1 hm).1; rw [List.length_take] at this; omega
  have hmo : o[m]? = some x := by rw [List.getElem?_take_of_lt hmk] at hm; exact hm
  obtain ⟨x', hx'⟩ : ∃ x', o[k - 1]? = some x' := ⟨_, List.getElem?_eq_getElem (by omega)⟩
  have hle := hlo x' (by omega) hx'
  have hx'm := List.mem_of_getElem? hx'
  have hlt' : ltP x'.2 y.2 = true := by
   rw [ltP_iff]
   have e1 := hzo x' hx'm
   have := pr_ne.1 (hne x' hx'm)
   omega
  by_cases hmm : m = k - 1
  ·rw [hmm, hx'] at hmo; cases hmo; exact hlt'
  ·have hp := List.pairwise_iff_getElem.1 hup m (k - 1) (by omega) (by omega) (by omega)
   rw [(List.getElem?_eq_some_iff.1 hmo).2, (List.getElem?_eq_some_iff.1 hx').2] at hp
   exact ltP_trans hp hlt'
 have hback : ∀ x ∈ o.drop k, ltP y.2 x.2 = true := by
  intro x hx
  obtain ⟨m, hm⟩ := List.getElem?_of_mem hx
  rw [List.getElem?_drop] at hm
  have hlt := hhi (k + m) x (by omega) hm
  have e1 := hzo x (List.mem_of_getElem? hm)
  rw [ltP_iff]
  omega
 refine ⟨?_, fun p => ?_⟩
 ·rw [List.append_assoc, List.pairwise_append]
  refine ⟨hup.sublist (List.take_sublist k o), ?_, ?_⟩
  ·exact List.pairwise_cons.2 ⟨hback, hup.sublist (List.drop_sublist k o)⟩
  ·intro x hx x2 hx2
   rcases List.mem_cons.1 hx2 with rfl | hx2
   ·exact hfront x hx
   ·exact ltP_trans (hfront x hx) (hback x2 hx2)
 ·have hmo : p ∈ o ↔ p ∈ o.take k ∨ p ∈ o.drop k := by rw [← List.mem_append, List.take_append_drop]
  rw [take_more hy, List.mem_append, List.mem_append, List.mem_append, List.mem_singleton]
  constructor
  ·rintro ((h1 | rfl) | h1)
   ·have := (h.2 p).1 (hmo.2 (.inl h1)); exact ⟨.inl this.1, this.2⟩
   ·exact ⟨.inr rfl, hz⟩
   ·have := (h.2 p).1 (hmo.2 (.inr h1)); exact ⟨.inl this.1, this.2⟩
  ·rintro ⟨h1 | rfl, h2⟩
   ·rcases hmo.1 ((h.2 p).2 ⟨h1, h2⟩) with h3 | h3
    ·exact .inl (.inl h3)
    ·exact .inr h3
   ·exact .inl (.inr rfl)
theorem Tryz.elem_places : Tryz.prog.underlying 38 = some (.slice (Tryz.prog.elem 38)) := by kernel_rfl
theorem places_front (a : Option Addr) (n c k : Nat) (hk : k ≤ c) (w : World) : (Instr.slice 38 (.slice a n c) none (some (.int .i64 (k : Int))) none).run Tryz.prog w = .ok (.slice a k c) w := by
 rw [run_slice_h (P := Tryz.prog) w 38 a n c Tryz.elem_places .i64 k (by omega) (by omega), Tryz.four_places w]
 simp only [Result.andThen, Int.toNat_natCast]
 unfold sliced
 cases a with
 | none => simp
 | some x => simp [Addr.add]
def lbackA (a : Option Addr) (c k : Nat) : Option Addr := if c = k then a else a.map (·.add (k * 4))
theorem places_back (a : Option Addr) (n c k : Nat) (hk : k ≤ n) (w : World) : (Instr.slice 38 (.slice a n c) (some (.int .i64 (k : Int))) none none).run Tryz.prog w = .ok (.slice (lbackA a c k) (n - k) (c - k)) w := by
 rw [run_slice_l (P := Tryz.prog) w 38 a n c Tryz.elem_places .i64 k (by omega) (by omega), Tryz.four_places w]
 simp only [Result.andThen, Int.toNat_natCast]
 unfold sliced lbackA
 rfl
theorem front_in {w : World} {a : Option Addr} {o : List Pl} (h : PlIn w a o.length o) {k : Nat} (hk : k ≤ o.length) : PlO w a k (o.take k) := by
 refine ⟨by rw [List.length_take]; omega, ?_⟩
 by_cases h0 : k = 0
 ·exact .inl h0
 ·obtain ⟨g, rfl, hc⟩ := h.2.resolve_left (by omega)
  refine .inr ⟨g, 0, rfl, fun i x hx => ?_⟩
  have hik : i < k := by have := (List.getElem?_eq_some_iff.1 hx).1; rw [List.length_take] at this; omega
  rw [List.getElem?_take_of_lt hik] at hx
  simpa using hc i x hx
theorem back_in {w : World} {a : Option Addr} {o : List Pl} {c : Nat} (h : PlIn w a o.length o) (hc : o.length ≤ c) {k : Nat} (hk : k ≤ o.length) : PlO w (lbackA a c k) (o.length - k) (o.drop k) := by
 refine ⟨by rw [List.length_drop], ?_⟩
 by_cases h0 : o.length - k = 0
 ·exact .inl h0
 ·obtain ⟨g, rfl, hcs⟩ := h.2.resolve_left (by omega)
  refine .inr ⟨g, k * 4, ?_, fun i x hx => ?_⟩
  ·unfold lbackA
   rw [if_neg (by omega)]
   simp [Addr.add_mid]
  ·rw [List.getElem?_drop] at hx
   have := hcs (k + i) x hx
   have e : (k + i) * 4 = k * 4 + i * 4 := by omega
   rw [e] at this
   exact this
theorem back_nil {a : Option Addr} {n c k : Nat} (h : a = none → n = 0 ∧ c = 0) : lbackA a c k = none → n - k = 0 ∧ c - k = 0 := by
 intro hb
 cases a with
 | none => obtain ⟨h1, h2⟩ := h rfl; omega
 | some x =>
  unfold lbackA at hb
  split at hb <;> simp at hb
theorem lown_cap {w : World} {base : Nat} {a : Option Addr} {n c : Nat} {zs : List Value} (h : w.ownsRow base 51 4 (.slice a n c) n zs) : n ≤ c := by
 rcases h.2 with ⟨hv, hn⟩ | ⟨g, cap, cur, hv, _, _, h3, _⟩
 ·cases hv; omega
 ·cases hv; exact h3
theorem tail_of {X : World} {B : Nat} {a : Option Addr} {cc : Nat} {o : List Pl} (hO : X.ownsRow B 51 4 (.slice a o.length cc) o.length (plC o)) (y : Pl) {k : Nat} (hk : k ≤ o.length) (hl : o.length ≤ 10000) :
  ∃ a1 c1 W1 g2 c2 W2 a3 c3 W3, (Builtin.append_ #[38, 38] 38 #[.slice none 0 0, .slice a k cc]).run Tryz.prog X = .ok (.slice a1 k c1) W1 ∧
   (Builtin.append_ #[38, 38] 38 #[.slice a1 k c1, .slice (some ⟨W1.heap.size, 0, none⟩) 1 1]).run Tryz.prog (W1.alloc (.cells #[.int .u32 y.1.1, .int .u64 y.1.2, .int .i64 y.2.1, .int .i64 y.2.2] 51)) = .ok (.slice (some ⟨g2, 0, none⟩) (k + 1) c2) W2 ∧
   (Builtin.append_ #[38, 38] 38 #[.slice (some ⟨g2, 0, none⟩) (k + 1) c2, .slice (lbackA a cc k) (o.length - k) (cc - k)]).run Tryz.prog W2 = .ok (.slice a3 (o.length + 1) c3) W3 ∧
   W3.ownsRow X.heap.size 51 4 (.slice a3 (o.length + 1) c3) (o.length + 1) (plC (o.take k ++ [y] ++ o.drop k)) ∧ Below X.heap.size X W1 ∧ Below X.heap.size X W2 ∧ Below X.heap.size X W3 := by
 have hP := own_pl hO
 have hnone : X.ownsRow X.heap.size 51 4 (.slice none 0 0) 0 (plC []) := ⟨rfl, .inl ⟨rfl, rfl⟩⟩
 obtain ⟨a1, c1, W1, r1, o1, g1⟩ := app_list hnone (front_in hP hk) (dd := cc) (fun e => by have := lown_nil hO e; omega) (by omega) (Nat.le_refl _)
 rw [Nat.zero_add] at r1 o1
 rw [List.nil_append] at o1
 have b1 : Below X.heap.size X W1 := (Below.refl _ _).grown g1 (Nat.le_refl _) (fun j hj => by cases hj)
 obtain ⟨g2, c2, W2, r2, o2, gr2⟩ := lapp_place o1 y (by omega) b1.size W1.heap.size rfl
 have b2 : Below X.heap.size X W2 := b1.grown gr2 b1.size (fun j hj => (o1.lt j hj).1)
 obtain ⟨a3, c3, W3, r3, o3, gr3⟩ := app_list o2 (back_in (hP.below b2) (lown_cap hO) hk) (dd := cc - k) (back_nil (lown_nil hO)) (by omega) b2.size
 have e : k + 1 + (o.length - k) = o.length + 1 := by omega
 rw [e] at r3 o3
 exact ⟨a1, c1, W1, g2, c2, W2, a3, c3, W3, r1, r2, r3, o3, b1, b2, b2.grown gr3 b2.size (fun j hj => (o2.lt j hj).1)⟩
set_option maxHeartbeats 8000000 in
theorem dmIn_of (r : Nat) (S : List Pl) (z : Int) (w : World) (h : LmD w r S) (hS : S.length ≤ 10000) :
  Calls Tryz.prog 40 #[.pointer (some ⟨r, 0, none⟩), .int .i64 z] w fun e w' => ∃ L a cc, e = .returned (.slice a L.length cc) ∧ IsIn S z L ∧ PlIn w' a L.length L ∧ Below w.heap.size w w' := by
 obtain ⟨aL, cL, hb, hr⟩ := h.list
 have HR : Hid (Blk w r [.slice aL S.length cL] 152 ∧ w.ownsRow 0 51 4 (.slice aL S.length cL) S.length (plC S)) := ⟨hb, hr⟩
 have HG : Hid (Good S) := h.good
 clear h hb hr
 go_enter Tryz.func40, Tryz.ntmps40
 go_wp2
 go_loopw [5, 6, 7, 8] (fun v i _ _ wr => ∃ (n : Nat) (o : List Pl) (a : Option Addr) (cc : Nat), n ≤ S.length ∧ i = .int .i64 n ∧ v = .slice a o.length cc ∧ IsIn (S.take n) z o ∧ wr.ownsRow w.heap.size 51 4 (.slice a o.length cc) o.length (plC o) ∧ Below w.heap.size w wr) (fun _ i _ _ _ => S.length - (intOf i).toNat)
 case atStart => exact ⟨0, [], none, 0, by omega, rfl, rfl, isIn_start S z, ⟨rfl, .inl ⟨rfl, rfl⟩⟩, Below.refl _ _⟩
 case round =>
  obtain ⟨X, hX⟩ : ∃ X : World, X = wr := ⟨wr, rfl⟩
  subst hX
  obtain ⟨n, o, a, cc, hn, rfl, rfl, hI, hO, hB⟩ := hrel
  have hol : o.length ≤ S.length := by
   have e := hI.len (S := S.take n) ⟨HG.out.up.sublist (List.take_sublist _ _), HG.out.apart.sublist (List.take_sublist _ _), fun p hp => HG.out.fits p (List.mem_of_mem_take hp)⟩
   have h1 := List.length_filter_le (fun p : Pl => p.2.1 == z) (S.take n)
   rw [List.length_take] at h1
   omega
  have c0 : ∀ j, (X.drewN j).cell? ⟨r, 0, none⟩ = some (.slice aL S.length cL) := fun j => (HR.out.1.below (Go.below_drewN hB j) HR.out.1.lt).cell 0
  have c00 : X.cell? ⟨r, 0, none⟩ = some (.slice aL S.length cL) := c0 0
  by_cases hlt : n < S.length
  ·have hlt' : (n : Int) < (S.length : Int) := by omega
   obtain ⟨y, hy⟩ : ∃ y, S[n]? = some y := ⟨_, List.getElem?_eq_getElem hlt⟩
   obtain ⟨g, rfl, hcs⟩ := (own_pl HR.out.2).2.resolve_left (by omega)
   obtain ⟨y0, y1, y2, y3⟩ := hcs n y hy
   have y0 : ∀ j, (X.drewN j).cell? ⟨g, n * 4, none⟩ = some (.int .u32 y.1.1) := fun j => ((Go.below_drewN hB j).cell (old_block y0)).trans y0
   have y1 : ∀ j, (X.drewN j).cell? ⟨g, n * 4 + 1, none⟩ = some (.int .u64 y.1.2) := fun j => ((Go.below_drewN hB j).cell (old_block y1)).trans y1
   have y2 : ∀ j, (X.drewN j).cell? ⟨g, n * 4 + 2, none⟩ = some (.int .i64 y.2.1) := fun j => ((Go.below_drewN hB j).cell (old_block y2)).trans y2
   have y3 : ∀ j, (X.drewN j).cell? ⟨g, n * 4 + 3, none⟩ = some (.int .i64 y.2.2) := fun j => ((Go.below_drewN hB j).cell (old_block y3)).trans y3
   have y20 : X.cell? ⟨g, n * 4 + 2, none⟩ = some (.int .i64 y.2.1) := y2 0
   have HX : Hid (IsIn (S.take n) z o ∧ X.ownsRow w.heap.size 51 4 (.slice a o.length cc) o.length (plC o) ∧ Below w.heap.size w X ∧ S[n]? = some y) := ⟨hI, hO, hB, hy⟩
   clear hcs hI hO hB hy
   by_cases hz : y.2.1 = z
   ·have e1 : (y.2.1 != z) = false := by simpa using hz
    have HZ : Hid (y.2.1 = z) := hz
    clear hz
    go_wp2_with fail
    go_loopw [7] (fun i wr => ∃ k j : Nat, k ≤ o.length ∧ i = .int .i64 k ∧ (∀ m x, k ≤ m → o[m]? = some x → y.2.2 < x.2.2) ∧ wr = X.drewN j) (fun i _ => (intOf i).toNat)
    case atStart => exact ⟨o.length, 0, by omega, rfl, fun m x hm hx => by have := (List.getElem?_eq_some_iff.1 hx).1; omega, rfl⟩
    case round =>
     obtain ⟨k, j, hk, rfl, hhi, rfl⟩ := hrel
     have HH : Hid (∀ m x, k ≤ m → o[m]? = some x → y.2.2 < x.2.2) := hhi
     clear hhi
     by_cases hk0 : k = 0
     ·have hgd : decide ((0 : Int) < (k : Int)) = false := decide_eq_false (by omega)
      have hgn : decide (0 < k) = false := decide_eq_false (by omega)
      have HK0 : Hid (k = 0) := hk0
      clear hk0
      go_wp2_with fail
      go_quiet (fail)
      rename_i nq
      try simp only [World.drewN_drewN]
      obtain ⟨a1, c1, W1, g2, c2, W2, a3, c3, W3, r1, r2, r3, o3, b1, b2, b3⟩ := tail_of (X := X.drewN (j + nq)) (B := w.heap.size) HX.out.2.1 y (k := k) hk (by omega)
      have x1 : W1.cell? ⟨r, 0, none⟩ = some (.slice (some ⟨g, 0, none⟩) S.length cL) := (b1.cell (old_block (c0 (j + nq)))).trans (c0 (j + nq))
      have u0 := (b1.cell (old_block (y0 (j + nq)))).trans (y0 (j + nq))
      have u1 := (b1.cell (old_block (y1 (j + nq)))).trans (y1 (j + nq))
      have u2 := (b1.cell (old_block (y2 (j + nq)))).trans (y2 (j + nq))
      have u3 := (b1.cell (old_block (y3 (j + nq)))).trans (y3 (j + nq))
      have p1 := fun W => places_front a o.length cc k (Nat.le_trans hk (lown_cap HX.out.2.1)) W
      have p2 := fun W => places_back a o.length cc k hk W
      have HF : Hid (IsIn (S.take (n + 1)) z (o.take (k) ++ [y] ++ o.drop (k)) ∧ W3.ownsRow w.heap.size 51 4 (.slice a3 (o.length + 1) c3) (o.length + 1) (plC (o.take (k) ++ [y] ++ o.drop (k))) ∧ Below w.heap.size w W3) := by
       have hbX : Below w.heap.size w (X.drewN (j + nq)) := Go.below_drewN HX.out.2.2.1 _
       refine ⟨HX.out.1.yes HG.out HX.out.2.2.2 HZ.out hk HH.out (fun x h0 => absurd h0 (by have := HK0.out; omega)), own_base o3 (fun q hq => Nat.le_trans hbX.size (o3.lt q hq).1), below_then hbX b3 hbX.size⟩
      have HLn : Hid ((o.take (k) ++ [y] ++ o.drop (k)).length = o.length + 1) := by
       show (o.take (k) ++ [y] ++ o.drop (k)).length = o.length + 1
       simp only [List.length_append, List.length_take, List.length_drop, List.length_cons, List.length_nil]
       omega
      clear o3 b1 b2 b3 HX HH y20 c00
      go_wp2_with (first | (at_builtin; refine lwpList_append_run rfl _ _ 38 38 rfl _ _ rfl rfl _ _ r1 ?_; clear r1) | (at_builtin; refine lwpList_append_run rfl _ _ 38 38 rfl _ _ rfl rfl _ _ r2 ?_; clear r2) | (at_builtin; refine lwpList_append_run rfl _ _ 38 38 rfl _ _ rfl rfl _ _ r3 ?_; clear r3) | go_in)
      go_roundw
      case rel => exact ⟨n + 1, o.take (k) ++ [y] ++ o.drop (k), a3, c3, by omega, by go_num, by rw [HLn.out], HF.out.1, by rw [HLn.out]; exact HF.out.2.1, HF.out.2.2⟩
      case measure => simp [intOf]; omega
     ·obtain ⟨m, hkm⟩ : ∃ m, k = m + 1 := ⟨k - 1, by omega⟩
      have HKM : Hid (k = m + 1) := hkm
      have hki : (k : Int) - 1 = (m : Int) := by omega
      have hgn : decide (0 < k) = true := decide_eq_true (by omega)
      have hkp : 0 < k := by omega
      obtain ⟨x, hx⟩ : ∃ x, o[m]? = some x := ⟨_, List.getElem?_eq_getElem (by omega)⟩
      obtain ⟨ga, rfl, hcs⟩ := (own_pl HX.out.2.1).2.resolve_left (by omega)
      obtain ⟨_, _, _, x3⟩ := hcs m x hx
      have x3 : ∀ i, (X.drewN i).cell? ⟨ga, m * 4 + 3, none⟩ = some (.int .i64 x.2.2) := fun i => x3
      have hgd : decide ((0 : Int) < (k : Int)) = true := decide_eq_true (by omega)
      have hlm : (m : Int) < (o.length : Int) := by omega
      have HXM : Hid (o[m]? = some x) := hx
      have hmo : m < o.length := by omega
      have hmn : m < k := by omega
      clear hcs hx hkm hk0
      by_cases hgt : y.2.2 < x.2.2
      ·have e2 : decide (y.2.2 < x.2.2) = true := decide_eq_true hgt
       have HH2 : Hid (∀ m' x', m ≤ m' → o[m']? = some x' → y.2.2 < x'.2.2) := by
        intro m' x' hm' hx'
        by_cases he : m' = m
        ·rw [he, HXM.out] at hx'; cases hx'; exact hgt
        ·exact HH.out m' x' (by have := HKM.out; omega) hx'
       clear hgt
       go_wp2_with fail
       go_quiet (fail)
       try simp only [World.drewN_drewN]
       go_wp2
       go_roundw
       case rel => exact ⟨m, _, by omega, by go_num, HH2.out, rfl⟩
       case measure => simp [intOf]; omega
      ·have e2 : decide (y.2.2 < x.2.2) = false := decide_eq_false hgt
       have HLo : Hid (x.2.2 ≤ y.2.2) := by show x.2.2 ≤ y.2.2; omega
       clear hgt
       go_wp2_with fail
       go_quiet (fail)
       rename_i nq
       try simp only [World.drewN_drewN]
       obtain ⟨a1, c1, W1, g2, c2, W2, a3, c3, W3, r1, r2, r3, o3, b1, b2, b3⟩ := tail_of (X := X.drewN (j + nq)) (B := w.heap.size) HX.out.2.1 y (k := k) hk (by omega)
       have x1 : W1.cell? ⟨r, 0, none⟩ = some (.slice (some ⟨g, 0, none⟩) S.length cL) := (b1.cell (old_block (c0 (j + nq)))).trans (c0 (j + nq))
       have u0 := (b1.cell (old_block (y0 (j + nq)))).trans (y0 (j + nq))
       have u1 := (b1.cell (old_block (y1 (j + nq)))).trans (y1 (j + nq))
       have u2 := (b1.cell (old_block (y2 (j + nq)))).trans (y2 (j + nq))
       have u3 := (b1.cell (old_block (y3 (j + nq)))).trans (y3 (j + nq))
       have p1 := fun W => places_front (some ⟨ga, 0, none⟩) o.length cc (k) (Nat.le_trans hk (lown_cap HX.out.2.1)) W
       have p2 := fun W => places_back (some ⟨ga, 0, none⟩) o.length cc (k) hk W
       have HF : Hid (IsIn (S.take (n + 1)) z (o.take (k) ++ [y] ++ o.drop (k)) ∧ W3.ownsRow w.heap.size 51 4 (.slice a3 (o.length + 1) c3) (o.length + 1) (plC (o.take (k) ++ [y] ++ o.drop (k))) ∧ Below w.heap.size w W3) := by
        have hbX : Below w.heap.size w (X.drewN (j + nq)) := Go.below_drewN HX.out.2.2.1 _
        refine ⟨HX.out.1.yes HG.out HX.out.2.2.2 HZ.out hk HH.out (fun x' _ hx' => by rw [HKM.out, Nat.add_sub_cancel, HXM.out] at hx'; cases hx'; exact HLo.out), own_base o3 (fun q hq => Nat.le_trans hbX.size (o3.lt q hq).1), below_then hbX b3 hbX.size⟩
       have HLn : Hid ((o.take (k) ++ [y] ++ o.drop (k)).length = o.length + 1) := by
        show (o.take (k) ++ [y] ++ o.drop (k)).length = o.length + 1
        simp only [List.length_append, List.length_take, List.length_drop, List.length_cons, List.length_nil]
        omega
       clear o3 b1 b2 b3 HX HH y20 c00
       go_wp2_with (first | (at_builtin; refine lwpList_append_run rfl _ _ 38 38 rfl _ _ rfl rfl _ _ r1 ?_; clear r1) | (at_builtin; refine lwpList_append_run rfl _ _ 38 38 rfl _ _ rfl rfl _ _ r2 ?_; clear r2) | (at_builtin; refine lwpList_append_run rfl _ _ 38 38 rfl _ _ rfl rfl _ _ r3 ?_; clear r3) | go_in)
       go_roundw
       case rel => exact ⟨n + 1, o.take (k) ++ [y] ++ o.drop (k), a3, c3, by omega, by go_num, by rw [HLn.out], HF.out.1, by rw [HLn.out]; exact HF.out.2.1, HF.out.2.2⟩
       case measure => simp [intOf]; omega
   ·have e1 : (y.2.1 != z) = true := by simpa using hz
    have HN : Hid (IsIn (S.take (n + 1)) z o) := HX.out.1.no HX.out.2.2.2 hz
    clear hz
    go_wp2
    go_roundw
    case rel => exact ⟨n + 1, o, a, cc, by omega, by go_num, rfl, HN.out, HX.out.2.1, HX.out.2.2.1⟩
    case measure => simp [intOf]; omega
  ·have hge : (S.length : Int) ≤ n := by omega
   have HE : Hid (IsIn S z o ∧ PlIn X a o.length o ∧ Below w.heap.size w X) := by
    rw [List.take_of_length_le (by omega)] at hI
    exact ⟨hI, own_pl hO, hB⟩
   clear hI hO hB
   go_wp2
   go_ret
   exact ⟨o, a, cc, rfl, HE.out⟩
end Go.Proofs.YtncnkpnfmbgifaaGreat
