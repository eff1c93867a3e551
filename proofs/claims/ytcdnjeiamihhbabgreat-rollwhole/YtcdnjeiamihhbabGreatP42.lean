/- P42 -/
import Derived.Test.YtcdnjeiamihhbabGreatRows
import Derived.Lib.SmallJoins
import Derived.ProofKit
import Derived.Deep.Slices
import Derived.Test.YtcdnjeiamihhbabGreatP40
import Derived.Test.YtcdnjeiamihhbabGreatP39
import Derived.Test.YtcdnjeiamihhbabGreatP41
set_option linter.unusedVariables false
set_option maxRecDepth 4000
namespace Go.Proofs.YtcdnjeiamihhbabGreat
open Go.RowKit
def PtAtR (w : World) (b o : Nat) (p : Pt) : Prop :=
 ∃ A L C, (∀ (j : Nat) (v : Value), (ptL p (.slice A L C))[j]? = some v → w.cell? ⟨b, o + j, none⟩ = some v) ∧ BIn w A L p.d ∧ (A = none → L = 0 ∧ C = 0) ∧ p.Fits
def PtsR (w : World) (a : Option Addr) (n : Nat) (l : List Pt) : Prop :=
 l.length = n ∧ n ≤ maxLen ∧ (n = 0 ∨ ∃ b off, a = some ⟨b, off, none⟩ ∧ ∀ (i : Nat) (p : Pt), l[i]? = some p → PtAtR w b (off + i * 4) p)
theorem PtsR.below {w w' : World} {a : Option Addr} {n : Nat} {l : List Pt} (h : PtsR w a n l) (hb : Below w.heap.size w w') : PtsR w' a n l := by
 obtain ⟨h1, h2, h3⟩ := h
 refine ⟨h1, h2, ?_⟩
 rcases h3 with h3 | ⟨b, off, ha, hc⟩
 ·exact .inl h3
 ·refine .inr ⟨b, off, ha, fun i p hp => ?_⟩
  obtain ⟨A, L, C, k1, k2, k3, k4⟩ := hc i p hp
  exact ⟨A, L, C, fun j v hv => by rw [hb.cell (old_block (k1 j v hv))]; exact k1 j v hv, k2.below hb, k3, k4⟩
theorem PtsR.pts {w : World} {a : Option Addr} {n : Nat} {l : List Pt} (h : PtsR w a n l) (hn : n ≤ 1000) (hd : ∀ p ∈ l, p.d.length ≤ 10000) : PtsIn (fun x => x < w.heap.size) w a n l := by
 obtain ⟨h1, h2, h3⟩ := h
 refine ⟨h1, hn, ?_⟩
 by_cases h0 : n = 0
 ·exact .inl h0
 ·obtain ⟨b, off, ha, hc⟩ := h3.resolve_left h0
  have hb : b < w.heap.size := by
   obtain ⟨A, L, C, k1, _⟩ := hc 0 (l[0]'(by omega)) (by simp)
   exact old_block (k1 0 _ rfl)
  refine .inr ⟨b, off, ha, hb, fun i p hp => ?_⟩
  obtain ⟨A, L, C, k1, k2, k3, k4⟩ := hc i p hp
  refine ⟨A, L, C, k1, k2, k3, by have := hd p (List.mem_of_getElem? hp); have := k2.1; omega, fun hL y hy => ?_, k4⟩
  obtain ⟨b', off', e, hcc⟩ := k2.2.2.2.resolve_left hL
  subst e
  simp only [Option.map_some, Option.some.injEq] at hy
  subst hy
  exact old_block (hcc 0 (by omega))
structure Od where
 k : Int
 l : List Pt
 z : Int
def odL (o : Od) (v : Value) : List Value := [.int .u8 o.k, v, .int .i64 o.z]
def OdAtR (w : World) (b o : Nat) (x : Od) : Prop :=
 ∃ A N C, (∀ (j : Nat) (v : Value), (odL x (.slice A N C))[j]? = some v → w.cell? ⟨b, o + j, none⟩ = some v) ∧ PtsR w A N x.l ∧ N ≤ C ∧ (A = none → N = 0 ∧ C = 0)
def OdsR (w : World) (a : Option Addr) (n : Nat) (os : List Od) : Prop :=
 os.length = n ∧ n ≤ maxLen ∧ (n = 0 ∨ ∃ b off, a = some ⟨b, off, none⟩ ∧ ∀ (i : Nat) (x : Od), os[i]? = some x → OdAtR w b (off + i * 3) x)
theorem OdsR.below {w w' : World} {a : Option Addr} {n : Nat} {os : List Od} (h : OdsR w a n os) (hb : Below w.heap.size w w') : OdsR w' a n os := by
 obtain ⟨h1, h2, h3⟩ := h
 refine ⟨h1, h2, ?_⟩
 rcases h3 with h3 | ⟨b, off, ha, hc⟩
 ·exact .inl h3
 ·refine .inr ⟨b, off, ha, fun i p hp => ?_⟩
  obtain ⟨A, L, C, k1, k2, k3, k4⟩ := hc i p hp
  exact ⟨A, L, C, fun j v hv => by rw [hb.cell (old_block (k1 j v hv))]; exact k1 j v hv, k2.below hb, k3, k4⟩
theorem OdsR.at {w : World} {a : Option Addr} {n : Nat} {os : List Od} (h : OdsR w a n os) {i : Nat} (hi : i < n) : ∃ (x : Od) (b off : Nat), os[i]? = some x ∧ a = some ⟨b, off, none⟩ ∧ OdAtR w b (off + i * 3) x := by
 obtain ⟨b, off, rfl, hc⟩ := h.2.2.resolve_left (by omega)
 have : i < os.length := by rw [h.1]; exact hi
 exact ⟨os[i], b, off, by simp [this], rfl, hc i _ (by simp [this])⟩
theorem PtsR.at {w : World} {a : Option Addr} {n : Nat} {l : List Pt} (h : PtsR w a n l) {i : Nat} (hi : i < n) : ∃ (p : Pt) (b off : Nat), l[i]? = some p ∧ a = some ⟨b, off, none⟩ ∧ PtAtR w b (off + i * 4) p := by
 obtain ⟨b, off, rfl, hc⟩ := h.2.2.resolve_left (by omega)
 have : i < l.length := by rw [h.1]; exact hi
 exact ⟨l[i], b, off, by simp [this], rfl, hc i _ (by simp [this])⟩
def hvP (l : List Pt) : Prop := 30 < l.length ∨ ∃ p ∈ l, 200 < p.d.length
def HvO (s : Sh) (os : List Od) : Prop := ¬ SmallS s ∨ 40 < os.length ∨ ∃ o ∈ os, hvP o.l
open Classical in
set_option maxHeartbeats 2000000 in
theorem heavy_of (s : Sh) (a : Option Addr) (n c : Nat) (os : List Od) (W : World) (h : OdsR W a n os) : Calls Tryz.prog 24 #[.agg (shL s).toArray, .slice a n c] W fun e w' => e = .returned (.bool (decide (HvO s os))) ∧ Below W.heap.size W w' := by
 have hb0 : ∀ o, Below W.heap.size W (W.alloc o) := fun o => (Below.refl _ _).alloc (Nat.le_refl _) o
 obtain ⟨b, hB⟩ : ∃ b, b = decide (HvO s os) := ⟨_, rfl⟩
 rw [← hB]
 have HB : Hid (b = decide (HvO s os)) := hB
 have HSm : Hid (∀ o, Calls Tryz.prog 59 #[.agg #[.int .i64 s.z, .int .i64 s.zb, .int .i64 s.b, .int .i64 s.r]] (W.alloc o) fun e w' => e = .returned (.bool (decide (SmallS s))) ∧ Below W.heap.size W w') := fun o => by
  refine (small_of s (W.alloc o)).mono ?_
  rintro e w' ⟨rfl, hb⟩
  exact ⟨by congr, (hb0 o).trans (hb.mono (hb0 o).size)⟩
 have H : Hid (OdsR W a n os) := h
 have hn := h.2.1
 have hlen := h.1
 unfold shL
 clear h hb0 hB
 by_cases hs : SmallS s
 ·rw [decide_eq_true hs] at HSm
  rcases Nat.lt_or_ge 40 n with h40 | h40
  ·have hbt : b = true := by rw [HB.out]; exact decide_eq_true (.inr (.inl (by rw [hlen]; exact h40)))
   have h40' : (40 : Int) < n := by omega
   rw [hbt]
   go_enter Tryz.func24, Tryz.ntmps24
   go_wp2_with (go_at_call 59; refine (HSm.out _).mono ?_; rintro e W1 ⟨rfl, hb1⟩)
   go_ret
   exact ⟨rfl, hb1⟩
  ·have h40' : ¬ (40 : Int) < n := by omega
   have HN : Hid ((∀ o ∈ os, ¬ hvP o.l) → b = false) := fun hh => by
    rw [HB.out]
    exact decide_eq_false (fun h => by
     rcases h with h | h | ⟨o, ho, h⟩
     ·exact h hs
     ·rw [hlen] at h; omega
     ·exact hh o ho h)
   have HT : Hid ((∃ o ∈ os, hvP o.l) → b = true) := fun hh => by rw [HB.out]; exact decide_eq_true (.inr (.inr hh))
   clear HB
   go_enter Tryz.func24, Tryz.ntmps24
   go_wp2_with (go_at_call 59; refine (HSm.out _).mono ?_; rintro e W1 ⟨rfl, hb1⟩)
   have HB1 : Hid (Below W.heap.size W W1) := hb1
   clear hb1 HSm
   go_loopw [6] (fun x wr => ∃ j : Nat, x = .int .i64 j ∧ j ≤ n ∧ wr = W1 ∧ ∀ i o, i < j → os[i]? = some o → ¬ hvP o.l) (fun x _ => n - (intOf x).toNat)
   case atStart => exact ⟨0, rfl, Nat.zero_le _, rfl, fun i o hi => by omega⟩
   case round =>
    obtain ⟨j, rfl, hj, rfl, hok⟩ := hrel
    rcases Nat.lt_or_ge j n with hlt | hge
    ·have hj' : (j : Int) < n := by omega
     have hwj : IntKind.i64.wrap ((j : Int) + 1) = (j : Int) + 1 := by rw [IntKind.wrap_i64]; omega
     obtain ⟨o, b0, off, ho, rfl, A, N, C, hcl, hpts, hNC, hnil⟩ := (H.out.below HB1.out).at hlt
     have x1 : wr.cell? ⟨b0, off + j * 3 + 1, none⟩ = some (.slice A N C) := hcl 1 _ rfl
     have HO : Hid (os[j]? = some o ∧ PtsR wr A N o.l ∧ ∀ i q, i < j → os[i]? = some q → ¬ hvP q.l) := ⟨ho, hpts, hok⟩
     have hNl := hpts.1
     have hNm := hpts.2.1
     clear hcl hpts hok ho
     rcases Nat.lt_or_ge 30 N with h30 | h30
     ·have h30' : (30 : Int) < N := by omega
      have hbt : b = true := HT.out ⟨o, List.mem_of_getElem? HO.out.1, .inl (by rw [hNl]; exact h30)⟩
      go_wp2
      go_ret
      exact ⟨congrArg (fun b => Ending.returned (Value.bool b)) hbt.symm, HB1.out⟩
     ·have h30' : ¬ (30 : Int) < N := by omega
      go_wp2
      obtain ⟨V1, rfl⟩ : ∃ V1 : World, V1 = wr := ⟨_, rfl⟩
      go_loopw [7] (fun x wr => ∃ k : Nat, x = .int .i64 k ∧ k ≤ N ∧ wr = V1 ∧ ∀ i p, i < k → o.l[i]? = some p → p.d.length ≤ 200) (fun x _ => N - (intOf x).toNat)
      case atStart => exact ⟨0, rfl, Nat.zero_le _, rfl, fun i p hi => by omega⟩
      case round =>
       obtain ⟨k, rfl, hk, rfl, hok⟩ := hrel
       rcases Nat.lt_or_ge k N with hlt2 | hge2
       ·have hk' : (k : Int) < N := by omega
        have hwk : IntKind.i64.wrap ((k : Int) + 1) = (k : Int) + 1 := by rw [IntKind.wrap_i64]; omega
        obtain ⟨p, b1, off1, hp, rfl, A1, L1, C1, hcl, hbin, _⟩ := HO.out.2.1.at hlt2
        have y3 : wr.cell? ⟨b1, off1 + k * 4 + 3, none⟩ = some (.slice A1 L1 C1) := hcl 3 _ rfl
        have hL := hbin.1
        have HK : Hid (o.l[k]? = some p ∧ ∀ i p, i < k → o.l[i]? = some p → p.d.length ≤ 200) := ⟨hp, hok⟩
        clear hcl hbin hp hok
        rcases Nat.lt_or_ge 200 L1 with h200 | h200
        ·have h200' : (200 : Int) < L1 := by omega
         have hbt : b = true := HT.out ⟨o, List.mem_of_getElem? HO.out.1, .inr ⟨p, List.mem_of_getElem? HK.out.1, by rw [hL]; exact h200⟩⟩
         go_wp2
         go_ret
         exact ⟨congrArg (fun b => Ending.returned (Value.bool b)) hbt.symm, HB1.out⟩
        ·have h200' : ¬ (200 : Int) < L1 := by omega
         go_wp2
         go_roundw
         case rel => exact ⟨k + 1, by simp, by omega, trivial, fun i q hi hq => by
          rcases Nat.lt_or_ge i k with h | h
          ·exact HK.out.2 i q h hq
          ·obtain rfl : i = k := by omega
           rw [HK.out.1] at hq
           cases hq
           omega⟩
         case measure => simp [intOf]; omega
       ·obtain rfl : k = N := by omega
        have HK : Hid (∀ p ∈ o.l, p.d.length ≤ 200) := fun p hp => by
         obtain ⟨i, hi⟩ := List.getElem?_of_mem hp
         exact hok i p (by have := (List.getElem?_eq_some_iff.1 hi).1; omega) hi
        clear hok
        go_wp2
        go_roundw
        case rel => exact ⟨j + 1, by simp, by omega, trivial, fun i q hi hq => by
         rcases Nat.lt_or_ge i j with h | h
         ·exact HO.out.2.2 i q h hq
         ·obtain rfl : i = j := by omega
          rw [HO.out.1] at hq
          cases hq
          rintro (h | ⟨p, hp, h⟩)
          ·omega
          ·have := HK.out p hp; omega⟩
        case measure => simp [intOf]; omega
    ·obtain rfl : j = n := by omega
     have hbf : b = false := HN.out (fun o ho => by
      obtain ⟨i, hi⟩ := List.getElem?_of_mem ho
      exact hok i o (by have := (List.getElem?_eq_some_iff.1 hi).1; omega) hi)
     clear hok
     go_wp2
     go_ret
     exact ⟨congrArg (fun b => Ending.returned (Value.bool b)) hbf.symm, HB1.out⟩
 ·have hbt : b = true := by rw [HB.out]; exact decide_eq_true (.inl hs)
  rw [decide_eq_false hs] at HSm
  rw [hbt]
  go_enter Tryz.func24, Tryz.ntmps24
  go_wp2_with (go_at_call 59; refine (HSm.out _).mono ?_; rintro e W1 ⟨rfl, hb1⟩)
  go_ret
  exact ⟨rfl, hb1⟩
def trB (b : Bool) : Int := if b = true then 1 else 0
open Classical in
theorem Heavy_of (s : Sh) (a : Option Addr) (n c : Nat) (os : List Od) (W : World) (h : OdsR W a n os) : Calls Tryz.prog 5 #[.agg (shL s).toArray, .slice a n c] W fun e w' => e = .returned (.int .i64 (trB (decide (HvO s os)))) ∧ Below W.heap.size W w' := by
 have hb0 : ∀ o, Below W.heap.size W (W.alloc o) := fun o => (Below.refl _ _).alloc (Nat.le_refl _) o
 have HH : Hid (∀ o, Calls Tryz.prog 24 #[.agg #[.int .i64 s.z, .int .i64 s.zb, .int .i64 s.b, .int .i64 s.r], .slice a n c] (W.alloc o) fun e w' => e = .returned (.bool (decide (HvO s os))) ∧ Below W.heap.size W w') := fun o => by
  refine (heavy_of s a n c os (W.alloc o) (h.below (hb0 o))).mono ?_
  rintro e w' ⟨rfl, hb⟩
  exact ⟨rfl, (hb0 o).trans (hb.mono (hb0 o).size)⟩
 have hT : ∀ (b : Bool) (w : World), Calls Tryz.prog 23 #[.bool b] w fun e w' => e = .returned (.int .i64 (trB b)) ∧ w' = w := by
  intro b w
  cases b
  all_goals (
   go_enter Tryz.func23, Tryz.ntmps23
   go_wp2
   go_ret
   exact ⟨rfl, rfl⟩)
 unfold shL
 clear h hb0
 generalize decide (HvO s os) = b at HH ⊢
 go_enter Tryz.func5, Tryz.ntmps5
 go_wp2_with (first
  | (go_at_call 24; refine (HH.out _).mono ?_; rintro e W1 ⟨rfl, hb1⟩)
  | (go_at_call 23; refine (hT _ _).mono ?_; rintro e W2 ⟨rfl, rfl⟩))
 go_ret
 exact ⟨rfl, hb1⟩
end Go.Proofs.YtcdnjeiamihhbabGreat
namespace Go.Proofs.YtcdnjeiamihhbabGreat
open Go.RowKit Go.ChangeShapes Go.WideShapes
section
section
variable {H : Type} {enc : TypeId × Value → H} {W : World}
abbrev Came (enc : TypeId × Value → H) (W : World) (t : TypeId) (v : Value) (d : DataW H) (p : List MemPlace) : Prop := DataW.Trod enc Tryz.prog W 0 (fun _ => true) true t v d p
def F64 (z : Int) : Prop := -9223372036854775808 ≤ z ∧ z < 9223372036854775808
theorem int_of {v : Value} {n : Nat} {y : DataW H × List MemPlace} (h : DataW.trod enc Tryz.prog W 0 (fun _ => true) true n 3 [v] = some y) : ∃ z, v = .int .i64 z ∧ F64 z := by
 obtain ⟨z, hv, _, hw⟩ := DataW.trod_int Tryz.underlying3 h
 have := bounds_i64 hw
 simp only [List.cons.injEq, and_true] at hv
 exact ⟨z, hv, by unfold F64; omega⟩
theorem u8_of {v : Value} {n : Nat} {y : DataW H × List MemPlace} (h : DataW.trod enc Tryz.prog W 0 (fun _ => true) true n 5 [v] = some y) : ∃ z, v = .int .u8 z ∧ Fits8 z := by
 obtain ⟨z, hv, _, hw⟩ := DataW.trod_int Tryz.underlying5 h
 have := bounds_u8 hw
 simp only [List.cons.injEq, and_true] at hv
 exact ⟨z, hv, by unfold Fits8; omega⟩
theorem slice_form {t e : TypeId} {v : Value} {n : Nat} {y : DataW H × List MemPlace} (ht : Tryz.prog.underlying t = some (.slice e)) (h : DataW.trod enc Tryz.prog W 0 (fun _ => true) true n t [v] = some y) : ∃ a l c, v = .slice a l c := by
 rcases DataW.trod_slice ht h with ⟨hcs, _⟩ | ⟨a, l, c, _, _, _, _, hcs, _⟩
 ·simp only [List.cons.injEq, and_true] at hcs; exact ⟨_, _, _, hcs⟩
 ·simp only [List.cons.injEq, and_true] at hcs; exact ⟨_, _, _, hcs⟩
theorem ints_cells {k : IntKind} {a : Option Addr} {len cap : Nat} {t e : TypeId} {fuel : Nat} {x : DataW H × List MemPlace} (ht : Tryz.prog.underlying t = some (.slice e)) (he : Tryz.prog.underlying e = some (.int k)) (hc : Tryz.prog.cellsOf e = 1)
  (h : DataW.trod enc Tryz.prog W 0 (fun _ => true) true fuel t [.slice a len cap] = some x) :
  (a = none ∧ len = 0 ∧ cap = 0) ∨ ∃ (b off : Nat) (zs : List Int), (len = 0 ∨ a = some ⟨b, off, none⟩) ∧ a ≠ none ∧ len ≤ cap ∧ cap ≤ maxLen ∧ zs.length = cap ∧ (∀ z ∈ zs, (Lit.int k z).wf = true) ∧ ∀ i, i < len → W.cell? ⟨b, off + i, none⟩ = some (.int k (zs.getD i 0)) := by
 rcases open_ints ht he hc h with ⟨hcs, _⟩ | ⟨x, l, c, zs, hcs, _, hl, hm, hz, _, hcell, hwz⟩
 ·simp at hcs
  obtain ⟨rfl, rfl, rfl⟩ := hcs
  exact .inl ⟨rfl, rfl, rfl⟩
 ·simp at hcs
  obtain ⟨rfl, rfl, rfl⟩ := hcs
  right
  have hz' : zs.length = cap := by simpa using hz
  by_cases h0 : len = 0
  ·exact ⟨0, 0, zs, .inl h0, by simp, hl, hm, hz', hwz, fun i hi => by omega⟩
  ·obtain ⟨b, off, spot⟩ := x
   have hc0 := hcell 0 (by omega)
   have hs : spot = none := by simpa [Addr.add] using World.cell?_spot hc0
   subst hs
   refine ⟨b, off, zs, .inr rfl, by simp, hl, hm, hz', hwz, fun i hi => ?_⟩
   have := hcell i (by omega)
   rwa [Addr.add_mid] at this
theorem bytes_of {a : Option Addr} {len cap : Nat} {fuel : Nat} {x : DataW H × List MemPlace} (h : DataW.trod enc Tryz.prog W 0 (fun _ => true) true fuel 51 [.slice a len cap] = some x) :
  ∃ zs, BIn W a len zs ∧ len ≤ cap ∧ (a = none → len = 0 ∧ cap = 0) := by
 rcases ints_cells Tryz.underlying51 Tryz.underlying5 (by kernel_rfl) h with ⟨rfl, rfl, rfl⟩ | ⟨b, off, zs, ha, hn, hl, hm, hz, hwz, hcell⟩
 ·exact ⟨[], bin_none _, Nat.le_refl _, fun _ => ⟨rfl, rfl⟩⟩
 ·refine ⟨zs.take len, ⟨by simp [hz]; omega, Nat.le_trans hl hm, fun z hz' => ?_, ?_⟩, hl, fun h => absurd h hn⟩
  ·have := bounds_u8 (hwz z (List.mem_of_mem_take hz'))
   unfold Fits8
   omega
  ·rcases ha with ha | ha
   ·exact .inl ha
   ·exact .inr ⟨b, off, ha, fun i hi => by rw [hcell i hi]; simp [List.getD, hi]⟩
theorem list_of {α : Type} {n : Nat} {p : Nat → α → Prop} (h : ∀ i, i < n → ∃ x, p i x) : ∃ l : List α, l.length = n ∧ ∀ i x, l[i]? = some x → p i x := by
 induction n with
 | zero => exact ⟨[], rfl, fun i x hx => by simp at hx⟩
 | succ n ih =>
  obtain ⟨l, hl, hp⟩ := ih (fun i hi => h i (by omega))
  obtain ⟨x, hx⟩ := h n (by omega)
  refine ⟨l ++ [x], by simp [hl], fun i y hy => ?_⟩
  by_cases hi : i < l.length
  ·rw [List.getElem?_append_left hi] at hy
   exact hp i y hy
  ·have hi' : i = l.length := by
    have := (List.getElem?_eq_some_iff.1 hy).1
    simp at this
    omega
   subst hi'
   simp at hy
   subst hy
   rw [hl]; exact hx
/-- A slice that came in: the cells of its elements. -/
theorem rows_of {t e : TypeId} {sz : Nat} {a : Option Addr} {len cap fuel : Nat} {y : DataW H × List MemPlace} (ht : Tryz.prog.underlying t = some (.slice e)) (hc : Tryz.prog.cellsOf e = sz) (hs0 : 0 < sz) (h : DataW.trod enc Tryz.prog W 0 (fun _ => true) true fuel t [.slice a len cap] = some y) :
  (len ≤ cap ∧ cap ≤ maxLen ∧ (a = none → len = 0 ∧ cap = 0)) ∧ (len = 0 ∨ ∃ b off, a = some ⟨b, off, none⟩ ∧ ∀ i, i < len → ∃ cs, cs.length = sz ∧ (∀ j, j < sz → W.cell? ⟨b, off + i * sz + j, none⟩ = cs[j]?) ∧ ∃ fuel' y', DataW.trod enc Tryz.prog W 0 (fun _ => true) true fuel' e cs = some y') := by
 rcases Deep.open_slice ht h with ⟨hcs, _⟩ | ⟨x, l, c, m, n, D, Pl, hcs, _, hl, hm, hmm, _, hx⟩
 ·simp at hcs
  obtain ⟨rfl, rfl, rfl⟩ := hcs
  exact ⟨⟨Nat.le_refl _, Nat.zero_le _, fun _ => ⟨rfl, rfl⟩⟩, .inl rfl⟩
 ·simp at hcs
  obtain ⟨rfl, rfl, rfl⟩ := hcs
  simp only [if_true] at hmm
  subst hmm
  rw [hc] at hx
  refine ⟨⟨hl, hm, fun h => by cases h⟩, ?_⟩
  by_cases h0 : len = 0
  ·exact .inl h0
  ·obtain ⟨b, off, spot⟩ := x
   obtain ⟨cs, h1, _⟩ := hx 0 (by omega)
   obtain ⟨_, hlen, hcell⟩ := World.cells?_some h1
   have hc0 := hcell 0 (by omega)
   rw [List.getElem?_eq_getElem (by omega)] at hc0
   have hs : spot = none := by simpa [Addr.add] using World.cell?_spot hc0
   subst hs
   refine .inr ⟨b, off, rfl, fun i hi => ?_⟩
   obtain ⟨cs', h1', h2'⟩ := hx i (by omega)
   obtain ⟨_, hlen', hcell'⟩ := World.cells?_some h1'
   refine ⟨cs', hlen', fun j hj => ?_, _, _, h2'⟩
   have := hcell' j (by omega)
   rw [Addr.add_mid, Addr.add_mid] at this
   exact this
def ShF (s : Sh) : Prop := F64 s.z ∧ F64 s.zb ∧ F64 s.b ∧ F64 s.r
theorem open_shape {r : Reach} {b0 : Nat} {v : Value} {d : DataW H} {p : List MemPlace} (hv : Value.okWide Tryz.prog W r b0 23 v) (h : Came enc W 23 v d p) : ∃ s : Sh, v = .agg (shL s).toArray ∧ ShF s := by
 obtain ⟨cs, rfl, hsz⟩ := okWide_struct Tryz.underlying23 hv
 obtain ⟨fuel, hf⟩ := h
 have hf' : DataW.trod enc Tryz.prog W 0 (fun _ => true) true fuel 23 cs.toList = some (d, p) := by simpa [Value.cells] using hf
 obtain ⟨xs, m, _, _, hlen, hxl, hf⟩ := DataW.trod_struct Tryz.underlying23 hf'
 have hc4 : Tryz.prog.cellsOf 23 = 4 := by kernel_rfl
 rw [hc4] at hlen
 obtain ⟨L, rfl⟩ : ∃ L : List Value, cs = L.toArray := ⟨cs.toList, by simp⟩
 simp only at hlen hf
 match L, hlen, xs, hxl with
 | [v0, v1, v2, v3], _, [x0, x1, x2, x3], _ =>
  have h0 := hf 0 _ rfl
  have h1 := hf 1 _ rfl
  have h2 := hf 2 _ rfl
  have h3 := hf 3 _ rfl
  simp only [List.getElem?_cons_zero, List.getElem?_cons_succ] at h0 h1 h2 h3
  obtain ⟨z, rfl, f0⟩ := int_of h0
  obtain ⟨zb, rfl, f1⟩ := int_of h1
  obtain ⟨b, rfl, f2⟩ := int_of h2
  obtain ⟨r, rfl, f3⟩ := int_of h3
  exact ⟨⟨z, zb, b, r⟩, rfl, f0, f1, f2, f3⟩
theorem u32_of {v : Value} {n : Nat} {y : DataW H × List MemPlace} (h : DataW.trod enc Tryz.prog W 0 (fun _ => true) true n 48 [v] = some y) : ∃ z, v = .int .u32 z ∧ Fits32 z := by
 obtain ⟨z, hv, _, hw⟩ := DataW.trod_int Tryz.underlying48 h
 have := bounds_u32 hw
 simp only [List.cons.injEq, and_true] at hv
 exact ⟨z, hv, by unfold Fits32; omega⟩
theorem u64_of {v : Value} {n : Nat} {y : DataW H × List MemPlace} (h : DataW.trod enc Tryz.prog W 0 (fun _ => true) true n 36 [v] = some y) : ∃ z, v = .int .u64 z ∧ FitsU z := by
 obtain ⟨z, hv, _, hw⟩ := DataW.trod_int Tryz.underlying36 h
 have := bounds_u64 hw
 simp only [List.cons.injEq, and_true] at hv
 exact ⟨z, hv, by unfold FitsU; omega⟩
theorem bool_of {v : Value} {n : Nat} {y : DataW H × List MemPlace} (h : DataW.trod enc Tryz.prog W 0 (fun _ => true) true n 4 [v] = some y) : ∃ b, v = .bool b := by
 obtain ⟨b, hv, _⟩ := DataW.trod_bool Tryz.underlying4 h
 simp only [List.cons.injEq, and_true] at hv
 exact ⟨b, hv⟩
theorem put_of_raw {cs : List Value} {n : Nat} {y : DataW H × List MemPlace} (h : DataW.trod enc Tryz.prog W 0 (fun _ => true) true n 61 cs = some y) : ∃ (p : Pt) (A : Option Addr) (L C : Nat), cs = ptL p (.slice A L C) ∧ BIn W A L p.d ∧ (A = none → L = 0 ∧ C = 0) ∧ p.Fits := by
 obtain ⟨xs, m, _, _, hlen, hxl, hf⟩ := DataW.trod_struct Tryz.underlying61 h
 have hc4 : Tryz.prog.cellsOf 61 = 4 := by kernel_rfl
 rw [hc4] at hlen
 match cs, hlen, xs, hxl with
 | [v0, v1, v2, v3], _, [x0, x1, x2, x3], _ =>
  have h0 := hf 0 _ rfl
  have h1 := hf 1 _ rfl
  have h2 := hf 2 _ rfl
  have h3 := hf 3 _ rfl
  simp only [List.getElem?_cons_zero, List.getElem?_cons_succ] at h0 h1 h2 h3
  obtain ⟨a, rfl, f0⟩ := u32_of h0
  obtain ⟨b, rfl, f1⟩ := u64_of h1
  obtain ⟨x, rfl⟩ := bool_of h2
  obtain ⟨A, L, C, rfl⟩ := slice_form Tryz.underlying51 h3
  obtain ⟨D, hb, hn⟩ := bytes_of h3
  exact ⟨⟨a, b, x, D⟩, A, L, C, rfl, hb, hn.2, f0, f1, hb.2.2.1⟩
theorem puts_of {a : Option Addr} {len cap fuel : Nat} {y : DataW H × List MemPlace} (h : DataW.trod enc Tryz.prog W 0 (fun _ => true) true fuel 32 [.slice a len cap] = some y) : ∃ l, PtsR W a len l ∧ len ≤ cap ∧ (a = none → len = 0 ∧ cap = 0) := by
 obtain ⟨⟨h1, h2, h3⟩, h4⟩ := rows_of Tryz.underlying32 (sz := 4) (by kernel_rfl) (by decide) h
 rcases h4 with rfl | ⟨b, off, rfl, hc⟩
 ·exact ⟨[], ⟨rfl, Nat.zero_le _, .inl rfl⟩, h1, h3⟩
 ·obtain ⟨l, hl, hp⟩ := list_of (n := len) (p := fun i (p : Pt) => PtAtR W b (off + i * 4) p) (fun i hi => by
   obtain ⟨cs, e1, e2, f, y', e3⟩ := hc i hi
   obtain ⟨p, A, L, C, rfl, hb, hn, hF⟩ := put_of_raw e3
   exact ⟨p, A, L, C, fun j v hv => by
    rw [e2 j (by have := (List.getElem?_eq_some_iff.1 hv).1; simpa [ptL] using this)]; exact hv, hb, hn, hF⟩)
  exact ⟨l, ⟨hl, Nat.le_trans h1 h2, .inr ⟨b, off, rfl, fun i p hi => hp i p hi⟩⟩, h1, h3⟩
theorem sop_of {cs : List Value} {n : Nat} {y : DataW H × List MemPlace} (h : DataW.trod enc Tryz.prog W 0 (fun _ => true) true n 35 cs = some y) : ∃ (o : Od) (A : Option Addr) (N C : Nat), cs = odL o (.slice A N C) ∧ PtsR W A N o.l ∧ N ≤ C ∧ (A = none → N = 0 ∧ C = 0) ∧ Fits8 o.k ∧ F64 o.z := by
 obtain ⟨xs, m, _, _, hlen, hxl, hf⟩ := DataW.trod_struct Tryz.underlying35 h
 have hc3 : Tryz.prog.cellsOf 35 = 3 := by kernel_rfl
 rw [hc3] at hlen
 match cs, hlen, xs, hxl with
 | [v0, v1, v2], _, [x0, x1, x2], _ =>
  have h0 := hf 0 _ rfl
  have h1 := hf 1 _ rfl
  have h2 := hf 2 _ rfl
  simp only [List.getElem?_cons_zero, List.getElem?_cons_succ] at h0 h1 h2
  obtain ⟨k, rfl, f0⟩ := u8_of h0
  obtain ⟨A, N, C, rfl⟩ := slice_form Tryz.underlying32 h1
  obtain ⟨l, hl, h3, h4⟩ := puts_of h1
  obtain ⟨z, rfl, f2⟩ := int_of h2
  exact ⟨⟨k, l, z⟩, A, N, C, rfl, hl, h3, h4, f0, f2⟩
theorem open_sops {a : Option Addr} {len cap : Nat} {d : DataW H} {p : List MemPlace} (h : Came enc W 24 (.slice a len cap) d p) : ∃ os, OdsR W a len os ∧ len ≤ cap ∧ (a = none → len = 0 ∧ cap = 0) ∧ ∀ o ∈ os, Fits8 o.k ∧ F64 o.z := by
 obtain ⟨fuel, hf⟩ := h
 have hf' : DataW.trod enc Tryz.prog W 0 (fun _ => true) true fuel 24 [.slice a len cap] = some (d, p) := by simpa [Value.cells] using hf
 obtain ⟨⟨h1, h2, h3⟩, h4⟩ := rows_of Tryz.underlying24 (sz := 3) (by kernel_rfl) (by decide) hf'
 rcases h4 with rfl | ⟨b, off, rfl, hc⟩
 ·exact ⟨[], ⟨rfl, Nat.zero_le _, .inl rfl⟩, h1, h3, by simp⟩
 ·obtain ⟨os, hl, hp⟩ := list_of (n := len) (p := fun i (o : Od) => OdAtR W b (off + i * 3) o ∧ Fits8 o.k ∧ F64 o.z) (fun i hi => by
   obtain ⟨cs, e1, e2, f, y', e3⟩ := hc i hi
   obtain ⟨o, A, N, C, rfl, hb, hn, hF, f1, f2⟩ := sop_of e3
   exact ⟨o, ⟨A, N, C, fun j v hv => by
    rw [e2 j (by have := (List.getElem?_eq_some_iff.1 hv).1; simpa [odL] using this)]; exact hv, hb, hn, hF⟩, f1, f2⟩)
  refine ⟨os, ⟨hl, Nat.le_trans h1 h2, .inr ⟨b, off, rfl, fun i o hi => (hp i o hi).1⟩⟩, h1, h3, fun o ho => ?_⟩
  obtain ⟨i, hi⟩ := List.getElem?_of_mem ho
  exact (hp i o hi).2
end
end
end Go.Proofs.YtcdnjeiamihhbabGreat
namespace Go.Proofs.YtcdnjeiamihhbabGreat
open Go.RowKit
theorem st0_at (s : Sh) {i : Nat} (h1 : 1 ≤ i) : atZ (st0 s).zs i = ([], 0) := by
 have he : ∀ (n i : Nat), atZ (emptyZ n) i = ([], 0) := fun n i => by
  unfold atZ emptyZ
  rw [if_pos (by omega), Int.toNat_natCast, List.getD_eq_getElem?_getD]
  by_cases h : i < n
  ·simp [h]
  ·simp [h]
 show atZ (svZ s (emptyZ s.z.toNat) 0 0 []) i = ([], 0)
 unfold svZ
 split
 ·unfold putZ flushZ
  have h2 := he s.z.toNat i
  unfold atZ at h2 ⊢
  rw [if_pos (by omega), Int.toNat_natCast, List.getD_eq_getElem?_getD] at h2 ⊢
  rw [List.getElem?_mapIdx, List.getElem?_set_ne (by simp; omega)]
  cases hz : (emptyZ s.z.toNat)[i]? with
  | none => rfl
  | some z => rw [hz] at h2; simp only [Option.getD_some] at h2; subst h2; rfl
 ·exact he _ _
theorem st0_inv {s : Sh} (h : RightS s) : Inv (st0 s) := by
 have hw : Wf s (svZ s (emptyZ s.z.toNat) 0 0 []) := swf_svZ (empty_wf h) 0 0 []
 refine ⟨hw, ⟨good_nil, fun x hx => by cases hx⟩, ?_⟩
 have := hw.len
 have h6 := h.1
 show (newZ s.z.toNat).length = (svZ s (emptyZ s.z.toNat) 0 0 []).length
 rw [newZ_length (by omega)]
 omega
def s6 : Sh := ⟨6, 8, 64, 2⟩
theorem s6_right : RightS s6 := by unfold RightS s6 Powers; simp
def pA : Pt := ⟨1, 5, false, List.replicate 64 0⟩
theorem pA_fits : pA.Fits := ⟨by unfold Fits32 pA; simp, by unfold FitsU pA; simp, fun z hz => by have := List.eq_of_mem_replicate hz; subst this; unfold Fits8; omega⟩
/-- One that is put alone, where there is room. -/
theorem putM_one {st : St} {p : Pt} {i : Nat} {L' : List Int} (ho : okP st.s [p]) (hz : openZ st.s st.zs (needP p) st.L = ((i : Int), true, L')) (hf : frontN st i [p] = 1) : putM st [p] = (0, writeM { st with L := L' } i [p]) := by
 unfold putM
 rw [if_pos ho]
 show putF 1 st [p] = _
 unfold putF
 rw [hz]
 simp only [if_pos]
 rw [hf]
 rfl
section
section
variable {D : Nat → Prop} {W : World} {k : Bs} {st : St} {c : Nat}
theorem sdev_of (h : StV D W k st c) : Calls Tryz.prog 11 #[.pointer (some ⟨k.ps, 0, none⟩)] W fun e w' => e = .returned (.pointer (some ⟨k.pd, 0, none⟩)) ∧ w' = W := by
 obtain ⟨s0, _⟩ := h.cells
 clear h
 go_enter Tryz.func11, Tryz.ntmps11
 go_wp2
 go_ret
 exact ⟨rfl, rfl⟩
theorem sseq_of (h : StV D W k st c) : Calls Tryz.prog 15 #[.pointer (some ⟨k.ps, 0, none⟩)] W fun e w' => e = .returned (.int .u64 st.q) ∧ w' = W := by
 obtain ⟨_, _, _, s3, _⟩ := h.cells
 clear h
 go_enter Tryz.func15, Tryz.ntmps15
 go_wp2
 go_ret
 exact ⟨rfl, rfl⟩
/-- One that is put, in a list of its own that is new. -/
theorem sput_new (h : StV D W k st c) (p : Pt) (a : Option Addr) (n cc : Nat) (hp : p.Fits) (hn : n ≤ 10000) (hnil : a = none → n = 0 ∧ cc = 0) {V : World} {g : Nat} {B : Nat} (hb : Below W.heap.size W V) (hB : B = W.heap.size) (hg : Blk V g [.int .u32 p.t, .int .u64 p.b, .bool p.x, .slice a n cc] 61) (hgB : B ≤ g) (hd : BIn V a n p.d) (hda : n ≠ 0 → ∀ y, a.map (·.block) = some y → B ≤ y ∧ y < V.heap.size) (hc : c + 1 < 100000) :
  Calls Tryz.prog 8 #[.pointer (some ⟨k.ps, 0, none⟩), .slice (some ⟨g, 0, none⟩) 1 1] V fun e w' => e = .returned (.int .u16 (putM st [p]).1) ∧ Sv D W k (putM st [p]).2 (c + 1) w' := by
 subst hB
 have hlt : ∀ x, StO D k x → x < W.heap.size := fun x hx => by rcases hx with hx | hx; exact h.lt x hx; exact h.kin x hx
 refine (sput_of (h.under hb) (some ⟨g, 0, none⟩) 1 1 [p] (fun x => W.heap.size ≤ x ∧ x < V.heap.size) ⟨rfl, by omega, .inr ⟨g, 0, rfl, ⟨hgB, hg.lt⟩, fun i q hq => ?_⟩⟩ (Nat.le_refl _) (fun x hx => ⟨fun hs => ?_, hx.2⟩) hc).mono ?_
 ·have hi : i = 0 := by have := (List.getElem?_eq_some_iff.1 hq).1; simpa using this
  subst hi
  simp only [List.getElem?_cons_zero, Option.some.injEq] at hq
  subst hq
  exact ⟨a, n, cc, fun j v hv => by rw [show 0 + 0 * 4 + j = j by omega, hg.cell]; exact hv, hd, hnil, hn, fun h0 y hy => hda h0 y hy, hp⟩
 ·have := hlt x hs; have := hx.1; omega
 ·rintro e w' ⟨rfl, sv⟩
  exact ⟨rfl, sv.from hb⟩
end
end
end Go.Proofs.YtcdnjeiamihhbabGreat
