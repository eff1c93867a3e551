/- P44 -/
import Derived.Laws.FloatArith
import Derived.Test.YtcdnjeiamihhbabGreatChecked
import Derived.Laws.Externs
import Derived.Maps.OwnOps
import Derived.Test.YtcdnjeiamihhbabGreatP43
set_option linter.unusedVariables false
set_option maxRecDepth 4000
namespace Go.Proofs.YtcdnjeiamihhbabGreat
open Go.RowKit
/-- A free zone has nothing, any other one of the log has something; one at most is open; each place is behind a record, in a zone that is not free. -/
structure Inv3 (st : St) : Prop where
 i2 : Inv2 st
 fr : ∀ z : Nat, 2 ≤ z → z < st.L.length → (st.L.getD z 0 = 1 ∧ (atZ st.zs z).1 = [] ∧ st.la.getD z 0 = 0) ∨ ((st.L.getD z 0 = 2 ∨ st.L.getD z 0 = 3) ∧ (atZ st.zs z).1 ≠ [] ∧ st.la.getD z 0 ≠ 0)
 one : cntZ st.L 2 ≤ 1
 up : ∀ x ∈ st.S, 1 ≤ x.2.2
 ll : st.la.length = st.zs.length
/-- What opening a zone makes of the states. -/
structure OpZ (L L' : List Int) (i : Nat) : Prop where
 len : L'.length = L.length
 at_i : L'.getD i 0 = 2
 was : L.getD i 0 = 1 ∨ L.getD i 0 = 2
 oth : ∀ x, x ≠ i → L'.getD x 0 = L.getD x 0 ∨ (L.getD x 0 = 2 ∧ L'.getD x 0 = 3)
 one : cntZ L' 2 ≤ 1
theorem cnt_nil {L : List Int} {a : Int} (h : listZ L a = []) : cntZ L a = 0 := by unfold cntZ; rw [h]; rfl
theorem cur_opn {L : List Int} (h : curB L = true) (h1 : cntZ L 2 ≤ 1) : ∃ i : Nat, curA L = i ∧ i < L.length ∧ OpZ L (curL L) i ∧ (∀ x, x ≠ i → (curL L).getD x 0 = L.getD x 0) := by
 obtain ⟨i, hA, hi, h2, hl⟩ := cur_in h
 refine ⟨i, hA, hi, ?_⟩
 unfold curL curB curA at *
 cases hc : listZ L 2 with
 | cons z r =>
  rw [hc] at hA h2 h
  simp only at hA h2 h ⊢
  exact ⟨⟨rfl, h2, .inr h2, fun x _ => .inl rfl, h1⟩, fun _ _ => trivial⟩
 | nil =>
  rw [hc] at hA h2 h
  simp only at hA h2 h ⊢
  simp only [takeB, decide_eq_true_eq] at h
  have hi' : i = firstN L 1 := by simp only [takeI, if_pos h] at hA; omega
  have f1 := first_at h
  have g2 := cnt_turn (L := L) (z := firstN L 1) (c := 1) (b := 2) 2 h f1
  have e0 := cnt_nil hc
  simp at g2
  have hT : takeZ L = L.set (firstN L 1) 2 := by simp only [takeZ, if_pos h]
  have hx : ∀ x, x ≠ i → (takeZ L).getD x 0 = L.getD x 0 := fun x hx => by rw [hT, getD_set _ _ _ _ h, if_neg (by omega)]
  refine ⟨⟨takeZ_length L, h2, .inl (by rw [hi']; exact f1), fun x hx' => .inl (hx x hx'), ?_⟩, hx⟩
  rw [hT]
  omega
/-- The open zone is filled: nothing else turns; none is open then. -/
theorem fill_opn {L : List Int} {i : Nat} (hi : i < L.length) (h2 : L.getD i 0 = 2) (h1 : cntZ L 2 ≤ 1) : (turnZ L (i : Nat) 2 3).length = L.length ∧ (turnZ L (i : Nat) 2 3).getD i 0 = 3 ∧ (∀ x, x ≠ i → (turnZ L (i : Nat) 2 3).getD x 0 = L.getD x 0) ∧ cntZ (turnZ L (i : Nat) 2 3) 2 = 0 := by
 have e : turnZ L (i : Nat) 2 3 = L.set i 3 := by
  unfold turnZ
  rw [stZ_nat, if_pos h2]
  simp
 have g2 := cnt_turn (L := L) (z := i) (c := 2) (b := 3) 2 hi h2
 simp at g2
 refine ⟨turnZ_length _ _ _ _, ?_, fun x hx => ?_, ?_⟩
 ·rw [e, getD_set _ _ _ _ hi, if_pos rfl]
 ·rw [e, getD_set _ _ _ _ hi, if_neg hx]
 ·rw [e]; omega
/-- What opening leaves, whether there is one or not. -/
structure OpW (L L' : List Int) : Prop where
 len : L'.length = L.length
 oth : ∀ x, L'.getD x 0 = L.getD x 0 ∨ (L.getD x 0 = 2 ∧ L'.getD x 0 = 3)
 one : cntZ L' 2 ≤ 1
theorem open_opn (s : Sh) (zs : List Zn) (k : Int) : ∀ (m : Nat) (L : List Int), muZ L = m → cntZ L 2 ≤ 1 → (∀ x : Nat, L.getD x 0 = 1 → k ≤ roomZ s zs x) →
  ((openZ s zs k L).2.1 = true ∧ ∃ i : Nat, (openZ s zs k L).1 = i ∧ i < L.length ∧ OpZ L (openZ s zs k L).2.2 i ∧ k ≤ roomZ s zs i) ∨ ((openZ s zs k L).2.1 = false ∧ OpW L (openZ s zs k L).2.2) := by
 intro m
 induction m with
 | zero =>
  intro L hm h1 hf
  have hn : curB L = false := by
   cases hb : curB L with
   | false => rfl
   | true => have := cur_mu hb; omega
  rw [openZ_done (by rw [hn]; simp), hn]
  refine .inr ⟨rfl, ?_⟩
  have : curL L = L := by
   unfold curL curB at *
   cases hc : listZ L 2 with
   | cons z r => rfl
   | nil =>
    rw [hc] at hn
    simp only [takeB, decide_eq_false_iff_not] at hn
    simp only [takeZ, if_neg hn]
  rw [this]
  exact ⟨rfl, fun x => .inl rfl, h1⟩
 | succ m ih =>
  intro L hm h1 hf
  cases hb : curB L with
  | false =>
   rw [openZ_done (by rw [hb]; simp), hb]
   refine .inr ⟨rfl, ?_⟩
   have : curL L = L := by
    unfold curL curB at *
    cases hc : listZ L 2 with
    | cons z r => rfl
    | nil =>
     rw [hc] at hb
     simp only [takeB, decide_eq_false_iff_not] at hb
     simp only [takeZ, if_neg hb]
   rw [this]
   exact ⟨rfl, fun x => .inl rfl, h1⟩
  | true =>
   obtain ⟨i, hA, hi, hop, hx⟩ := cur_opn hb h1
   by_cases hr : roomZ s zs (curA L) < k
   ·have hmu := cur_mu hb
    rw [← openZ_more hb hr]
    have hiL : i < (curL L).length := by rw [hop.len]; exact hi
    obtain ⟨f1, f2, f3, f4⟩ := fill_opn hiL hop.at_i hop.one
    rw [hA] at hmu hr ⊢
    have hw2 : L.getD i 0 = 2 := by
     rcases hop.was with h | h
     ·have := hf i h; omega
     ·exact h
    have hsame : ∀ x, (turnZ (curL L) (i : Nat) 2 3).getD x 0 = L.getD x 0 ∨ (L.getD x 0 = 2 ∧ (turnZ (curL L) (i : Nat) 2 3).getD x 0 = 3) := fun x => by
     by_cases hxi : x = i
     ·subst hxi; exact .inr ⟨hw2, f2⟩
     ·exact .inl ((f3 x hxi).trans (hx x hxi))
    rcases ih (turnZ (curL L) (i : Nat) 2 3) (by omega) (by omega) (fun x hx1 => hf x (by rcases hsame x with h | h; rw [← h]; exact hx1; rw [h.2] at hx1; omega)) with ⟨g1, j, g2, g3, g4, g5⟩ | ⟨g1, g4⟩
    ·refine .inl ⟨g1, j, g2, by rw [f1, hop.len] at g3; exact g3, ⟨by rw [g4.len, f1, hop.len], g4.at_i, ?_, fun x hxj => ?_, g4.one⟩, g5⟩
     ·rcases hsame j with h | h
      ·rw [← h]; exact g4.was
      ·exact .inr h.1
     ·rcases g4.oth x hxj with h | ⟨h, h'⟩
      ·rcases hsame x with e | ⟨e, e'⟩
       ·exact .inl (h.trans e)
       ·exact .inr ⟨e, h.trans e'⟩
      ·rcases hsame x with e | ⟨e, e'⟩
       ·exact .inr ⟨by rw [← e]; exact h, h'⟩
       ·rw [e'] at h; omega
    ·refine .inr ⟨g1, by rw [g4.len, f1, hop.len], fun x => ?_, g4.one⟩
     rcases g4.oth x with h | ⟨h, h'⟩
     ·rcases hsame x with e | ⟨e, e'⟩
      ·exact .inl (h.trans e)
      ·exact .inr ⟨e, h.trans e'⟩
     ·rcases hsame x with e | ⟨e, e'⟩
      ·exact .inr ⟨by rw [← e]; exact h, h'⟩
      ·rw [e'] at h; omega
   ·rw [openZ_done (by omega), hb]
    refine .inl ⟨rfl, i, hA, hi, hop, ?_⟩
    rw [hA] at hr
    omega
theorem app_other {s : Sh} {zs : List Zn} {z x : Nat} {D : List Int} (h : x ≠ z) : atZ (appZ s zs z D) x = atZ zs x := by
 unfold appZ
 split
 ·split
  ·rfl
  ·unfold atZ
   simp only [Int.toNat_natCast]
   split
   ·simp only [List.getD_eq_getElem?_getD, List.getElem?_set_ne (show z ≠ x by omega)]
   ·rfl
 ·rfl
theorem wr_other {st : St} {z x : Nat} {l : List Pt} (h : x ≠ z) : ∀ j, j ≤ l.length → atZ (wrY st z l j).1 x = atZ st.zs x := by
 intro j
 induction j with
 | zero => intro _; rw [wrY_zero]; exact app_other h
 | succ j ih =>
  intro hj
  obtain ⟨p, hp⟩ : ∃ p, l[j]? = some p := ⟨l[j], by simp [show j < l.length by omega]⟩
  rw [wrY_next hp]
  unfold oneP
  split
  ·exact ih (by omega)
  ·rw [show atZ (appZ st.s (wrY st z l j).1 z p.d) x = atZ (wrY st z l j).1 x from app_other h]
   exact ih (by omega)
theorem wr_up {st : St} {z : Nat} {l : List Pt} (hi : Inv st) (hz : z < st.zs.length) (hl0 : 0 < l.length) (hl1 : (l.length : Int) ≤ roomI st.s.b) (ho : okP st.s l) (hf : ∀ p ∈ l, p.Fits) (hr : ((datN l : Nat) : Int) + 1 ≤ roomZ st.s st.zs z) {P : Int → Prop} (hS : ∀ x ∈ st.S, 1 ≤ x.2.2 ∧ P x.2.1) (hP : P z) :
  ∀ j, j ≤ l.length → ∀ x ∈ (wrY st z l j).2, 1 ≤ x.2.2 ∧ P x.2.1 := by
 intro j
 induction j with
 | zero => intro _ x hx; rw [wrY_zero] at hx; exact hS x hx
 | succ j ih =>
  intro hj x hx
  obtain ⟨p, hp⟩ : ∃ p, l[j]? = some p := ⟨l[j], by simp [show j < l.length by omega]⟩
  obtain ⟨w1, w2, w3, w4, w5⟩ := wr_mem hi hz hl0 hl1 ho hf hr j (by omega)
  rw [wrY_next hp] at hx
  unfold oneP at hx
  split at hx
  ·exact ih (by omega) x (mem_dropS.1 hx).1
  ·rename_i hpx
   rcases (mem_putS w2.1).1 hx with rfl | ⟨h', _⟩
   ·have hd : (p.d.length : Int) = st.s.b := (ho p (List.mem_of_getElem? hp)).resolve_left hpx
    have hdn : datN (l.take j) + 1 ≤ datN l := by
     have e1 : l.take (j + 1) = l.take j ++ [p] := take_snoc hp
     have e2 : datN (l.take (j + 1)) = datN (l.take j) + 1 := by rw [e1]; unfold datN; simp [hpx]
     have e3 : datN (l.take (j + 1)) ≤ datN l := by unfold datN; exact ((List.take_sublist (j + 1) l).filter _).length_le
     omega
    have hnf : ¬ appFull st.s (wrY st z l j).1 z := by unfold appFull roomZ at *; omega
    have hok : appOk st.s (wrY st z l j).1 z p.d := ⟨by omega, by omega, hd⟩
    show 1 ≤ (appA st.s (wrY st z l j).1 z p.d).2 ∧ P (appA st.s (wrY st z l j).1 z p.d).1
    unfold appA
    rw [if_pos hok, if_neg hnf]
    refine ⟨?_, hP⟩
    show 1 ≤ (((atZ (wrY st z l j).1 z).1.length : Nat) : Int)
    omega
   ·exact ih (by omega) x h'
theorem fullL_cases {s : Sh} {zs : List Zn} {L : List Int} {i : Nat} (hi : i < L.length) (h2 : L.getD i 0 = 2) (h1 : cntZ L 2 ≤ 1) : (fullL s zs L (i : Nat)).length = L.length ∧ ((fullL s zs L (i : Nat)).getD i 0 = 2 ∨ (fullL s zs L (i : Nat)).getD i 0 = 3) ∧ (∀ x, x ≠ i → (fullL s zs L (i : Nat)).getD x 0 = L.getD x 0) ∧ cntZ (fullL s zs L (i : Nat)) 2 ≤ 1 := by
 unfold fullL
 split
 ·obtain ⟨f1, f2, f3, f4⟩ := fill_opn hi h2 h1
  exact ⟨f1, .inr f2, f3, by omega⟩
 ·exact ⟨rfl, .inl h2, fun x _ => rfl, h1⟩
theorem newZ_one (n : Nat) {z : Nat} (h2 : 2 ≤ z) (hz : z < (newZ n).length) : (newZ n).getD z 0 = 1 := by
 unfold newZ at *
 obtain ⟨y, rfl⟩ : ∃ y, z = y + 2 := ⟨z - 2, by omega⟩
 simp only [List.length_cons, List.length_replicate] at hz
 simp [show y < n - 2 by omega]
theorem newZ_two (n : Nat) : cntZ (newZ n) 2 = 0 := by
 unfold cntZ
 cases hc : listZ (newZ n) 2 with
 | nil => rfl
 | cons z r =>
  have hz : z ∈ listZ (newZ n) 2 := by rw [hc]; simp
  obtain ⟨i, hi, h2, rfl⟩ := listTo_mem.1 hz
  rcases i with _ | _ | i
  ·cases h2
  ·cases h2
  ·rw [newZ_one n (by omega) hi] at h2
   omega
theorem st0_inv3 {s : Sh} (h : RightS s) : Inv3 (st0 s) := by
 refine ⟨st0_inv2 h, fun z hz hzl => .inl ⟨newZ_one _ hz hzl, by rw [st0_at s (by omega)], ?_⟩, by show cntZ (newZ _) 2 ≤ 1; rw [newZ_two]; omega, (fun x hx => by cases hx), ?_⟩
 ·show (List.replicate s.z.toNat (0 : Int)).getD z 0 = 0
  simp only [List.getD_eq_getElem?_getD, List.getElem?_replicate]
  split <;> rfl
 ·have hw := (st0_inv h).wf.len
  have h6 := h.1
  show (List.replicate s.z.toNat (0 : Int)).length = (st0 s).zs.length
  rw [List.length_replicate]
  have : (st0 s).s = s := rfl
  rw [this] at hw
  omega
/-- What On makes of places and of zones that are full. -/
def fndS (q : Int) (y : List Int × List Int) (z : Int) : List Int × List Int := (turnZ y.1 z 1 3, if stZ y.1 z = 1 then y.2.set z.toNat q else y.2)
theorem KIn.at4 {w : World} {a : Option Addr} {n : Nat} {ps : List Pl} (h : KIn w a n ps) {i : Nat} (hi : i < n) : ∃ (x : Pl) (b off : Nat), ps[i]? = some x ∧ FitsP x ∧ a = some ⟨b, off, none⟩ ∧ w.cell? ⟨b, off + i * 4, none⟩ = some (.int .u32 x.1.1) ∧ w.cell? ⟨b, off + i * 4 + 1, none⟩ = some (.int .u64 x.1.2) ∧ w.cell? ⟨b, off + i * 4 + 2, none⟩ = some (.int .i64 x.2.1) ∧ w.cell? ⟨b, off + i * 4 + 3, none⟩ = some (.int .i64 x.2.2) := by
 obtain ⟨b, off, rfl, hc⟩ := h.2.2.2.resolve_left (by omega)
 have hl := h.1
 obtain ⟨x, hx⟩ : ∃ x, ps[i]? = some x := ⟨ps[i], by simp [show i < ps.length by omega]⟩
 exact ⟨x, b, off, hx, h.2.2.1 x (List.mem_of_getElem? hx), rfl, hc i x hx 0 _ rfl, hc i x hx 1 _ rfl, hc i x hx 2 _ rfl, hc i x hx 3 _ rfl⟩
end Go.Proofs.YtcdnjeiamihhbabGreat
namespace Go.Proofs.YtcdnjeiamihhbabGreat
/-- N / g to the nearest whole number, a half to the even one. -/
def rhe (n g : Nat) : Nat := n / g + (decide (g < 2 * (n % g)) || (decide (g = 2 * (n % g)) && decide (n / g % 2 = 1))).toNat
/-- The binade that N / D falls into, from the least one on. -/
def lgQ (N D : Nat) : Nat := (N / D).log2 - 52
/-- The rung nearest to N / D. -/
def RQ (N D : Nat) : Nat := lgQ N D * 2 ^ 52 + rhe N (D * 2 ^ lgQ N D)
/-- What a rung stands for, in units of 2 ^ -1074 (also past the last one). -/
def val (r : Nat) : Nat := if r < 2 ^ 52 then r else (2 ^ 52 + r % 2 ^ 52) * 2 ^ (r / 2 ^ 52 - 1)
end Go.Proofs.YtcdnjeiamihhbabGreat
namespace Go.Proofs.YtcdnjeiamihhbabGreat
open Ieee
/-- The rung of infinity. -/
abbrev IR : Nat := 9218868437227405312
def sg (s : Bool) (n : Nat) : Int := if s then -(n : Int) else n
/-- The sign bit; the rung; no number. -/
def sgn (x : Nat) : Bool := x / 2 ^ 63 % 2 == 1
def rung (x : Nat) : Nat := x % 2 ^ 63
def Nan (x : Nat) : Prop := IR < rung x
instance (x : Nat) : Decidable (Nan x) := inferInstanceAs (Decidable (_ < _))
/-- What orders numbers. -/
def key (x : Nat) : Int := sg (sgn x) (val (rung x))
/-- 1074, by a name. -/
def EE : Nat := 1074
/-- A whole number as a double. -/
def cv (n : Nat) : Nat := min (RQ (n * 2 ^ EE) 1) IR
end Go.Proofs.YtcdnjeiamihhbabGreat
namespace Go.Proofs.YtcdnjeiamihhbabGreat
open Go.RowKit

end Go.Proofs.YtcdnjeiamihhbabGreat
namespace Go.Proofs.YtcdnjeiamihhbabGreat
open Go.RowKit Ieee





/-- 1, 2 and 2 ^ 64. -/
abbrev one : Nat := 4607182418800017408
abbrev two : Nat := 4611686018427387904


/-! The document's way: the full zones one behind the other. -/
theorem before {F : List Int} (h : F.Pairwise (· < ·)) {i : Nat} {x z : Int} (hz : F[i]? = some z) (hx : x ∈ F) (hlt : x < z) : x ∈ F.take i := by
 obtain ⟨j, hj, rfl⟩ := List.getElem_of_mem hx
 obtain ⟨hi, rfl⟩ := List.getElem?_eq_some_iff.1 hz
 rcases Nat.lt_or_ge j i with c | c
 ·exact List.mem_take_iff_getElem.2 ⟨j, by omega, rfl⟩
 ·rcases Nat.eq_or_lt_of_le c with e | e
  ·subst e; omega
  ·have := List.pairwise_iff_getElem.1 h i j hi hj e
   omega
end Go.Proofs.YtcdnjeiamihhbabGreat
namespace Go.Proofs.YtcdnjeiamihhbabGreat
open Go.RowKit
/-! Rounds, one behind the other. -/
/-! What holds from the beginning on stays. -/
/-! A small store has few places. -/
end Go.Proofs.YtcdnjeiamihhbabGreat
namespace Go.Proofs.YtcdnjeiamihhbabGreat
open Go.RowKit Ieee
section
section
variable {w w' : World} {b n : Nat} {f : Int → Int}
end
section
variable {D : Nat → Prop} {W : World} {k : Bs} {st : St} {c : Nat}
end
end
end Go.Proofs.YtcdnjeiamihhbabGreat
namespace Go.Proofs.YtcdnjeiamihhbabGreat
open Go.RowKit
section
section
variable {D : Nat → Prop} {W : World} {k : Bs} {st : St} {c : Nat}
end
end
section
section
variable {D D0 : Nat → Prop} {W V w : World} {k : Bs} {st : St} {c : Nat}
end
end


section
/-- A store that the call made. -/
def Ky (W : World) (k : Bs) (st : St) (c : Nat) (V : World) : Prop := ∃ D, StV D V k st c ∧ Below W.heap.size W V ∧ ∀ x, StO D k x → W.heap.size ≤ x
section
variable {W V V' : World} {k : Bs} {st st' : St} {c c' : Nat}
theorem Ky.bel (h : Ky W k st c V) : Below W.heap.size W V := by obtain ⟨D, _, h2, _⟩ := h; exact h2
theorem Ky.under (h : Ky W k st c V) (hb : Below V.heap.size V V') : Ky W k st c V' := by
 obtain ⟨D, h1, h2, h3⟩ := h
 exact ⟨D, h1.under hb, h2.trans (hb.mono h2.size), h3⟩
theorem Ky.sv {D : Nat → Prop} (h1 : StV D V k st c) (h2 : Below W.heap.size W V) (h3 : ∀ x, StO D k x → W.heap.size ≤ x) (sv : Sv D V k st' c' V') : Ky W k st' c' V' := by
 obtain ⟨D', k1, k2, k3⟩ := sv
 refine ⟨D', k1, h2.trans (k3.below h2.size (fun j hj => h3 j hj)), fun x hx => ?_⟩
 rcases hx with hx | hx
 ·rcases k2 x hx with h | h
  ·exact h3 x (.inl h)
  ·have := h2.size; omega
 ·exact h3 x (.inr hx)
theorem Ky.dev (h : Ky W k st c V) : Calls Tryz.prog 11 #[.pointer (some ⟨k.ps, 0, none⟩)] V fun e w' => e = .returned (.pointer (some ⟨k.pd, 0, none⟩)) ∧ w' = V := by
 obtain ⟨D, h1, _⟩ := h; exact sdev_of h1
end
end

section
section
variable {D D0 : Nat → Prop} {W V w w' : World} {k : Bs} {st : St} {c : Nat}
end
section
variable {q : Nat} {V V' : World} {a av : Option Addr} {S : List Pl} {cv : Nat} {M : Pr → Option (List Int)}
end
end
/-! A zone that was picked is free. -/
/-! Which one is picked, by going through the full ones from the last on. -/
section
section
variable {W V V' : World} {k : Bs} {st st' : St} {c c' : Nat}
theorem Ky.seq (h : Ky W k st c V) : Calls Tryz.prog 15 #[.pointer (some ⟨k.ps, 0, none⟩)] V fun e w' => e = .returned (.int .u64 st.q) ∧ w' = V := by
 obtain ⟨D, h1, _⟩ := h; exact sseq_of h1
end
end
section
theorem run_app1 {e t ty : TypeId} {size : Nat} {z : Value} (ht : Tryz.prog.underlying t = some (.slice e)) (hinfo : (Tryz.prog.info? e).map (fun i => (i.zero, i.size, i.bytes)) = some (some z, 1, size)) (hz : z.cells.size = 1) (hsz : size ≤ 24)
  {w : World} (base : Nat) (a0 : Option Addr) (n0 c0 : Nat) (xs : List Value) (hown : w.ownsRow base e 1 (.slice a0 n0 c0) n0 xs)
  (g c1 : Nat) (v : Value) (hc : w.cell? ⟨g, 0, none⟩ = some v) (h1 : v.oneCell' = true) (hle : n0 + 1 ≤ 1000000) (hbase : base ≤ w.heap.size) :
  ∃ a' c' w', (Builtin.append_ #[t, t] ty #[.slice a0 n0 c0, .slice (some ⟨g, 0, none⟩) 1 c1]).run Tryz.prog w = .ok (.slice a' (n0 + 1) c') w' ∧ w'.ownsRow base e 1 (.slice a' (n0 + 1) c') (n0 + 1) (xs ++ [v]) ∧ Below base w w' ∧ w.grownBy w' (Value.slice a0 n0 c0).ownBlock := by
 obtain ⟨i0, hi, hz0, hz1, hz2⟩ := info_parts hinfo
 have hle' := Nat.mul_le_mul hle hsz
 obtain ⟨v', w', hrun, hown', hgrow, _⟩ := run_append_own (P := Tryz.prog) w base t ty e i0 z 1 size ht hi hz0 hz1 hz2 hz (by decide) _ n0 xs hown ⟨g, 0, none⟩ 1 c1 [v] rfl (by
  intro j u hj
  match j, hj with
  | 0, hj =>
   simp at hj
   subst hj
   exact hc) (by intro u hu; simp at hu; subst hu; exact h1) (by unfold maxLen; omega) (by omega) hbase
 have hb : Below base w w' := (Below.refl base w).grown hgrow hbase (fun k hk => (hown.lt k hk).1)
 obtain ⟨a', c', rfl⟩ : ∃ a' c', v' = .slice a' (n0 + 1) c' := by
  rcases hown'.2 with ⟨hv, hn⟩ | ⟨g, cap, cur, hv, _⟩
  ·omega
  ·exact ⟨_, _, hv⟩
 exact ⟨a', c', w', hrun, hown', hb, hgrow⟩
section
variable {q : Nat} {V wr X : World} {st : St} {F : List Int} {i : Nat} {a1 a2 : Option Addr} {c1 c2 n : Nat} {ys : List Nat} {z : Int}
end
section
variable {D M : Nat → Prop} {W : World} {k : Rs} {st : St}
end
end
end Go.Proofs.YtcdnjeiamihhbabGreat
