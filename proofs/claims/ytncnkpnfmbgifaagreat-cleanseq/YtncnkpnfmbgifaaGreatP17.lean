/- Texts of this seat, one behind the other: StM, ZOut, SSh, SgP. -/
import Derived.Test.YtncnkpnfmbgifaaGreatP16
import Derived.Test.YtncnkpnfmbgifaaGreatP13
import Derived.Test.YtncnkpnfmbgifaaGreatP2
import Derived.Test.YtncnkpnfmbgifaaGreatP1
import Derived.ArgAppend
import Derived.Laws.OwnMore
import Derived.RangeFuncBox
import Derived.Test.YtncnkpnfmbgifaaGreatP3
import Derived.Test.YtncnkpnfmbgifaaGreatP4
import Derived.Deep.OwnRows
/- What a store tells, by names; what Put makes of it. -/
namespace Go.Proofs.YtncnkpnfmbgifaaGreat
open Go.RowKit
set_option linter.unusedVariables false
set_option maxRecDepth 4000

def blkZ (zs : List Zn) (a : Pr) : Option (List Int) := if 0 ≤ a.1 ∧ 0 ≤ a.2 then (zs[a.1.toNat]?).bind (fun z => z.1[a.2.toNat]?) else none
theorem blkZ_nat (zs : List Zn) (i j : Nat) : blkZ zs ((i : Int), (j : Int)) = (zs[i]?).bind (fun z => z.1[j]?) := by simp [blkZ]
theorem blkZ_some {zs : List Zn} {a : Pr} {E : List Int} (h : blkZ zs a = some E) : ∃ (i j : Nat) (z : Zn), a = ((i : Int), (j : Int)) ∧ zs[i]? = some z ∧ z.1[j]? = some E := by
 unfold blkZ at h
 split at h
 ·rename_i hp
  obtain ⟨z, hz, hE⟩ := Option.bind_eq_some_iff.1 h
  exact ⟨a.1.toNat, a.2.toNat, z, by obtain ⟨x, y⟩ := a; simp at hp ⊢; omega, hz, hE⟩
 ·cases h
theorem blkZ_app {s : Sh} {zs : List Zn} {z : Int} {E : List Int} {a : Pr} {F : List Int} (h : blkZ zs a = some F) : blkZ (appZ s zs z E) a = some F := by
 unfold appZ
 split
 ·split
  ·exact h
  ·rename_i ho hf
   obtain ⟨i, j, y, rfl, hy, hF⟩ := blkZ_some h
   rw [blkZ_nat]
   by_cases hi : z.toNat = i
   ·subst hi
    have hlt := (List.getElem?_eq_some_iff.1 hy).1
    have e : atZ zs z = y := by
     have := atZ_in hy
     rw [Int.toNat_of_nonneg ho.1] at this
     exact this
    rw [List.getElem?_set_self hlt]
    simp only [Option.bind_some, e]
    rw [List.getElem?_append_left (List.getElem?_eq_some_iff.1 hF).1]
    exact hF
   ·rw [List.getElem?_set_ne hi, hy]
    exact hF
 ·exact h
theorem app_new {s : Sh} {zs : List Zn} {z : Nat} {E : List Int} (hok : appOk s zs z E) (hf : ¬ appFull s zs z) :
  appA s zs z E = ((z : Int), ((atZ zs z).1.length : Int)) ∧ blkZ zs (appA s zs z E) = none ∧ blkZ (appZ s zs z E) (appA s zs z E) = some E ∧ (atZ (appZ s zs z E) z).1.length = (atZ zs z).1.length + 1 := by
 have hA : appA s zs z E = ((z : Int), ((atZ zs z).1.length : Int)) := by unfold appA; rw [if_pos hok, if_neg hf]
 have hz : z < zs.length := by have := hok.2.1; omega
 have hy : zs[z]? = some zs[z] := by simp [hz]
 have e : atZ zs z = zs[z] := atZ_in hy
 have hZ : appZ s zs z E = zs.set z ((atZ zs z).1 ++ [E], (atZ zs z).2) := by unfold appZ; rw [if_pos hok, if_neg hf]; simp
 refine ⟨hA, ?_, ?_, ?_⟩
 ·rw [hA, blkZ_nat, hy, e]; simp
 ·rw [hA, hZ, blkZ_nat, List.getElem?_set_self hz]; simp
 ·rw [hZ, atZ_in (List.getElem?_set_self hz)]; simp
def memS (zs : List Zn) (S : List Pl) (n : Pr) : Option (List Int) := (getS S n).bind (blkZ zs)
def updP (M : Pr → Option (List Int)) (p : Pt) : Pr → Option (List Int) := fun n => if n = p.n then (if p.x = true then none else some p.d) else M n
def Plc (zs : List Zn) (S : List Pl) : Prop := Good S ∧ ∀ x ∈ S, (blkZ zs x.2).isSome
theorem Plc.app {s : Sh} {zs : List Zn} {S : List Pl} (h : Plc zs S) (z : Int) (E : List Int) : Plc (appZ s zs z E) S ∧ memS (appZ s zs z E) S = memS zs S := by
 have hk : ∀ x ∈ S, blkZ (appZ s zs z E) x.2 = blkZ zs x.2 := fun x hx => by
  obtain ⟨F, hF⟩ := Option.isSome_iff_exists.1 (h.2 x hx)
  rw [hF]; exact blkZ_app hF
 refine ⟨⟨h.1, fun x hx => by rw [hk x hx]; exact h.2 x hx⟩, ?_⟩
 funext n
 unfold memS
 cases hg : getS S n with
 | none => rfl
 | some a => exact hk (n, a) ((getS_some h.1).1 hg)
theorem get_drop_other {S : List Pl} (h : Good S) {n m : Pr} (hne : m ≠ n) : getS (dropS S n) m = getS S m := by
 cases hg : getS S m with
 | none => exact getS_none.2 (fun s hs => getS_none.1 hg s (mem_dropS.1 hs).1)
 | some a => exact (getS_some (h.drop n)).2 (mem_dropS.2 ⟨(getS_some h).1 hg, hne⟩)
theorem Plc.drop {zs : List Zn} {S : List Pl} (h : Plc zs S) {p : Pt} (hx : p.x = true) : Plc zs (dropS S p.n) ∧ memS zs (dropS S p.n) = updP (memS zs S) p := by
 refine ⟨⟨h.1.drop _, fun x hx => h.2 x (mem_dropS.1 hx).1⟩, ?_⟩
 funext n
 unfold updP
 rw [if_pos hx]
 split
 ·rename_i e
  subst e
  unfold memS
  rw [getS_none.2 (fun s hs => (mem_dropS.1 hs).2 rfl)]
  rfl
 ·rename_i e
  unfold memS
  rw [get_drop_other h.1 e]
theorem Plc.put {s : Sh} {zs : List Zn} {S : List Pl} (h : Plc zs S) {z : Nat} {p : Pt} (hx : p.x = false) (hok : appOk s zs z p.d) (hf : ¬ appFull s zs z) (hfit : FitsP (p.n, appA s zs z p.d)) :
  Plc (appZ s zs z p.d) (putS S (p.n, appA s zs z p.d)) ∧ memS (appZ s zs z p.d) (putS S (p.n, appA s zs z p.d)) = updP (memS zs S) p := by
 obtain ⟨hA, h0, h1, _⟩ := app_new hok hf
 have hapart : ∀ x ∈ S, x.2 ≠ appA s zs z p.d := fun x hx e => by have := h.2 x hx; rw [e, h0] at this; cases this
 have hg := h.1.put hfit
 refine ⟨⟨hg, fun x hx => ?_⟩, ?_⟩
 ·rcases (mem_putS h.1).1 hx with rfl | ⟨h2, _, _⟩
  ·show (blkZ _ (appA s zs z p.d)).isSome = true
   rw [h1]; rfl
  ·obtain ⟨F, hF⟩ := Option.isSome_iff_exists.1 (h.2 x h2)
   rw [blkZ_app hF]; rfl
 ·funext n
  unfold updP
  split
  ·rename_i e
   subst e
   rw [if_neg (by rw [hx]; decide)]
   unfold memS
   rw [(getS_some hg).2 ((mem_putS h.1).2 (.inl rfl))]
   exact h1
  ·rename_i e
   unfold memS
   cases hgn : getS S n with
   | none =>
    rw [getS_none.2 (fun a ha => by
     rcases (mem_putS h.1).1 ha with h2 | ⟨h2, _⟩
     ·exact e (congrArg Prod.fst h2)
     ·exact getS_none.1 hgn a h2)]
    rfl
   | some a =>
    have hm := (getS_some h.1).1 hgn
    rw [(getS_some hg).2 ((mem_putS h.1).2 (.inr ⟨hm, e, hapart _ hm⟩))]
    obtain ⟨F, hF⟩ := Option.isSome_iff_exists.1 (h.2 _ hm)
    show blkZ (appZ s zs z p.d) a = blkZ zs a
    rw [blkZ_app hF]
    exact hF.symm

def datN (l : List Pt) : Nat := (l.filter (fun p => !p.x)).length
theorem frN_dat : ∀ (l : List Pt) (k : Nat) (d : Int), (datN (l.take (frN l k d)) : Int) ≤ max d 0
 | [], k, d => by simp [frN, datN]; omega
 | p :: l, 0, d => by simp [frN, datN]; omega
 | p :: l, k + 1, d => by
  unfold frN
  split
  ·rename_i hx
   have := frN_dat l k d
   simp only [List.take_succ_cons, datN, List.filter_cons, hx] at this ⊢
   simpa using this
  ·rename_i hx
   split
   ·have := frN_dat l k (d - 1)
    simp only [List.take_succ_cons, datN, List.filter_cons, Bool.eq_false_iff.2 hx] at this ⊢
    simp
    omega
   ·simp [datN]; omega
end Go.Proofs.YtncnkpnfmbgifaaGreat

/- What lies outside of a set of blocks; appending to a row. -/
namespace Go.Proofs.YtncnkpnfmbgifaaGreat
open Go.RowKit
set_option linter.unusedVariables false
set_option maxRecDepth 4000

end Go.Proofs.YtncnkpnfmbgifaaGreat

/- Shapes, and what may be; small things. -/
namespace Go.Proofs.YtncnkpnfmbgifaaGreat
open Go.RowKit
set_option linter.unusedVariables false
set_option maxRecDepth 4000

end Go.Proofs.YtncnkpnfmbgifaaGreat

/- The program's zones' states in memory, and what one call of State, turn, Fill, Clear, Found, Index, Take does. -/
namespace Go.Proofs.YtncnkpnfmbgifaaGreat
open Go.RowKit
set_option linter.unusedVariables false
set_option maxRecDepth 4000

theorem blk_ne' {W : World} {g g' : Nat} {L L' : List Value} {t t' : TypeId} (h : Blk W g L t) (h' : Blk W g' L' t') (ht : t ≠ t') : g ≠ g' := by
 rintro rfl
 have e : some (Obj.cells L.toArray t (0, 0)) = some (Obj.cells L'.toArray t' (0, 0)) := h.symm.trans h'
 simp only [Option.some.injEq, Obj.cells.injEq] at e
 exact ht e.2.1
theorem sbelow_drewN {n : Nat} {w w' : World} (h : Below n w w') (k : Nat) : Below n w (w'.drewN k) := ⟨h.os, h.tape, h.output, h.size, h.block⟩
theorem below_less {n m : Nat} {w w' : World} (h : Below m w w') (hn : n ≤ m) : Below n w w' := ⟨h.os, h.tape, h.output, h.size, fun k hk => h.block k (by omega)⟩
structure SegP (W : World) (p g : Nat) (r : Int) (L : List Int) : Prop where
 hp : Blk W p [.slice (some ⟨g, 0, none⟩) L.length L.length, .int .i64 r] 118
 hg : Blk W g (u8s L) 5
 len : 2 ≤ L.length ∧ L.length ≤ 256
 fit : ∀ x ∈ L, Fits8 x
section
variable {W W' : World} {p g : Nat} {r : Int} {L : List Int} {O : Nat → Prop}
theorem SegP.c0 (h : SegP W p g r L) : W.cell? ⟨p, 0, none⟩ = some (.slice (some ⟨g, 0, none⟩) L.length L.length) := h.hp.cell 0
theorem SegP.c1 (h : SegP W p g r L) : W.cell? ⟨p, 1, none⟩ = some (.int .i64 r) := h.hp.cell 1
theorem SegP.at (h : SegP W p g r L) {i : Nat} (hi : i < L.length) : W.cell? ⟨g, i, none⟩ = some (.int .u8 (L.getD i 0)) := by
 rw [h.hg.cell]; simp [u8s, List.getD, hi]
theorem SegP.free (h : SegP W p g r L) (i : Nat) : W.frozen? ⟨g, i, none⟩ = false := h.hg.frozen i
theorem SegP.lt (h : SegP W p g r L) : p < W.heap.size ∧ g < W.heap.size := ⟨h.hp.lt, h.hg.lt⟩
theorem SegP.out (h : SegP W p g r L) (ho : Out O W W') (h1 : ¬ O p) (h2 : ¬ O g) : SegP W' p g r L := ⟨ho.blk h.hp h1, ho.blk h.hg h2, h.len, h.fit⟩
theorem SegP.under (h : SegP W p g r L) (hb : Below W.heap.size W W') : SegP W' p g r L := h.out (below_out Non hb) (fun e => e) (fun e => e)
theorem SegP.ne (h : SegP W p g r L) : p ≠ g := blk_ne' h.hp h.hg (by decide)
theorem SegP.set (h : SegP W p g r L) (i : Nat) {b : Int} (hb : Fits8 b) : SegP (W.setCell ⟨g, i, none⟩ (.int .u8 b)) p g r (L.set i b) := by
 refine ⟨?_, ?_, by simpa using h.len, fun x hx => ?_⟩
 ·have := h.hp.set_other (a := ⟨g, i, none⟩) h.ne (.int .u8 b)
  simpa using this
 ·have := h.hg.set i (.int .u8 b)
  rw [show (u8s L).set i (.int .u8 b) = u8s (L.set i b) by simp [u8s, List.map_set]] at this
  exact this
 ·rcases List.mem_or_eq_of_mem_set hx with h' | rfl
  ·exact h.fit x h'
  ·exact hb
theorem out_one (w : World) (g i : Nat) (v : Value) : Out (fun j => j = g) w (w.setCell ⟨g, i, none⟩ v) := (Out.refl (fun j => j = g) w).setCell (p := ⟨g, i, none⟩) (.inl rfl) v
end

theorem gState_of (p g : Nat) (r : Int) (L : List Int) (z : Int) (w : World) (h : SegP w p g r L) :
  Calls Tryz.prog 24 #[.pointer (some ⟨p, 0, none⟩), .int .i64 z] w fun e w' => e = .returned (.int .u8 (stZ L z)) ∧ w' = w := by
 have c0 := h.c0
 obtain ⟨N, hN⟩ : ∃ N, N = L.length := ⟨_, rfl⟩
 rw [← hN] at c0
 have HS : Hid (SegP w p g r L ∧ N = L.length) := ⟨h, hN⟩
 obtain ⟨S, hS⟩ : ∃ S, S = stZ L z := ⟨_, rfl⟩
 rw [← hS]
 have HZ : Hid (S = stZ L z) := hS
 clear h hS hN
 rcases Int.lt_or_le z 0 with h0 | h0
 ·have e : S = 0 := HZ.out.trans (stZ_out (.inl h0))
  subst e
  go_enter Tryz.func24, Tryz.ntmps24
  go_wp2
  go_ret
  exact ⟨rfl, rfl⟩
 ·rcases Int.lt_or_le z N with h1 | h1
  ·obtain ⟨i, rfl⟩ : ∃ i : Nat, z = i := ⟨z.toNat, by omega⟩
   have hi : i < L.length := by have := HS.out.2; omega
   have c1 : w.cell? ⟨g, i, none⟩ = some (.int .u8 S) := by rw [HZ.out, stZ_nat]; exact HS.out.1.at hi
   clear h0 hi
   have h1' : i < N := by omega
   go_enter Tryz.func24, Tryz.ntmps24
   go_wp2
   go_ret
   exact ⟨rfl, rfl⟩
  ·have e : S = 0 := HZ.out.trans (stZ_out (.inr (by rw [← HS.out.2]; exact h1)))
   subst e
   go_enter Tryz.func24, Tryz.ntmps24
   go_wp2
   go_ret
   exact ⟨rfl, rfl⟩
end Go.Proofs.YtncnkpnfmbgifaaGreat
