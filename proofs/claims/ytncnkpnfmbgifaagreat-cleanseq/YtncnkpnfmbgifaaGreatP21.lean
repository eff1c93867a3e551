/- Texts of this seat, one behind the other: StP, SgT, StA, StG. -/
import Derived.Test.YtncnkpnfmbgifaaGreatP16
import Derived.Test.YtncnkpnfmbgifaaGreatP18
import Derived.Test.YtncnkpnfmbgifaaGreatP19
import Derived.Test.YtncnkpnfmbgifaaGreatP20
import Derived.Test.YtncnkpnfmbgifaaGreatP17
import Derived.BigRegion
/- The program's store in memory, and what one call on a part of it leaves of it; a list of blocks to be put, in memory. -/
namespace Go.Proofs.YtncnkpnfmbgifaaGreat
open Go.RowKit
set_option linter.unusedVariables false
set_option maxRecDepth 4000

structure Bs where
 ps : Nat
 pd : Nat
 pg : Nat
 gg : Nat
 pm : Nat
 b1 : Nat
 b2 : Nat
 lb : Nat
def Bs.has (k : Bs) (x : Nat) : Prop := x = k.ps ∨ x = k.pg ∨ x = k.gg ∨ x = k.pm ∨ x = k.b1 ∨ x = k.b2 ∨ x = k.lb
def stL (k : Bs) (q : Int) (n : Nat) (o : Int) : List Value := [.pointer (some ⟨k.pd, 0, none⟩), .pointer (some ⟨k.pg, 0, none⟩), .pointer (some ⟨k.pm, 0, none⟩), .int .u64 q, .slice (some ⟨k.lb, 0, none⟩) n n, .int .i64 o]
structure StV (D : Nat → Prop) (W : World) (k : Bs) (st : St) (c : Nat) : Prop where
 hp : Blk W k.ps (stL k st.q st.la.length st.o) 100
 dv : Dv 122 D W k.pd st.s st.zs
 sg : SegP W k.pg k.gg st.s.r st.L
 mp : LmP W k.pm k.b1 k.b2 st.S c
 hl : Blk W k.lb (kInts .u64 st.la) 47
 wf : Wf st.s st.zs
 fq : FitsU st.q
 len : st.L.length = st.zs.length ∧ st.la.length = st.zs.length
 lt : ∀ x, D x → x < W.heap.size
 nd : ∀ x, k.has x → ¬ D x
 ap : [k.ps, k.pg, k.gg, k.pm, k.b1, k.b2, k.lb].Nodup
def StO (D : Nat → Prop) (k : Bs) : Nat → Prop := fun x => D x ∨ k.has x
def Sv (D0 : Nat → Prop) (V : World) (k : Bs) (st : St) (c : Nat) (W : World) : Prop := ∃ D, StV D W k st c ∧ (∀ x, D x → D0 x ∨ V.heap.size ≤ x) ∧ Out (StO D0 k) V W
section
variable {D D0 : Nat → Prop} {V W W' : World} {k : Bs} {st st' : St} {c c' : Nat}
theorem StV.kin (h : StV D W k st c) : ∀ x, k.has x → x < W.heap.size := by
 rintro x (rfl | rfl | rfl | rfl | rfl | rfl | rfl)
 ·exact h.hp.lt
 ·exact h.sg.lt.1
 ·exact h.sg.lt.2
 ·exact h.mp.hp.lt
 ·exact h.mp.m1.lt
 ·exact h.mp.m2.lt
 ·exact h.hl.lt
theorem StV.out {O : Nat → Prop} (h : StV D W k st c) (ho : Out O W W') (hO : ∀ x, StO D k x → ¬ O x) : StV D W' k st c := by
 refine ⟨ho.blk h.hp (hO _ (.inr (.inl rfl))), ?_, h.sg.out ho (hO _ (.inr (.inr (.inl rfl)))) (hO _ (.inr (.inr (.inr (.inl rfl))))), h.mp.out ho ?_, ho.blk h.hl (hO _ (.inr (.inr (.inr (.inr (.inr (.inr (.inr rfl)))))))), h.wf, h.fq, h.len, fun x hx => Nat.lt_of_lt_of_le (h.lt x hx) ho.size, h.nd, h.ap⟩
 ·obtain ⟨g, cc, vs, hv⟩ := h.dv
  exact ⟨g, cc, vs, hv.out ho (fun x hx => hO x (.inl hx))⟩
 ·rintro x (rfl | rfl | rfl)
  ·exact hO _ (.inr (.inr (.inr (.inr (.inl rfl)))))
  ·exact hO _ (.inr (.inr (.inr (.inr (.inr (.inl rfl))))))
  ·exact hO _ (.inr (.inr (.inr (.inr (.inr (.inr (.inl rfl)))))))
theorem StV.under (h : StV D W k st c) (hb : Below W.heap.size W W') : StV D W' k st c := h.out (below_out Non hb) (fun _ _ e => e)
theorem Sv.start (h : StV D W k st c) : Sv D W k st c W := ⟨D, h, fun _ h => .inl h, Out.refl _ _⟩
theorem Sv.under (h : Sv D0 V k st c W) (hb : Below W.heap.size W W') : Sv D0 V k st c W' := by
 obtain ⟨D, h1, h2, h3⟩ := h
 exact ⟨D, h1.under hb, h2, h3.under hb⟩
theorem Sv.next (hD : ∀ x, D x → D0 x ∨ V.heap.size ≤ x) (ho : Out (StO D0 k) V W) (h : Sv D W k st' c' W') : Sv D0 V k st' c' W' := by
 obtain ⟨D', h1, h2, h3⟩ := h
 refine ⟨D', h1, fun x hx => ?_, ho.trans h3 (fun j hj => ?_)⟩
 ·rcases h2 x hx with h | h
  ·exact hD x h
  ·have := ho.size; exact .inr (by omega)
 ·rcases hj with hj | hj
  ·rcases hD j hj with h | h
   ·exact .inl (.inl h)
   ·exact .inr h
  ·exact .inl (.inr hj)
theorem Sv.from {W1 : World} (hb : Below V.heap.size V W1) (h : Sv D0 W1 k st c W) : Sv D0 V k st c W := by
 obtain ⟨D, h1, h2, h3⟩ := h
 refine ⟨D, h1, fun x hx => ?_, (below_out _ hb).trans h3 (fun j e => .inl e)⟩
 rcases h2 x hx with h | h
 ·exact .inl h
 ·have := hb.size; exact .inr (by omega)
theorem nodup7 {a b c d e f g : Nat} (h : [a, b, c, d, e, f, g].Nodup) : (a ≠ b ∧ a ≠ c ∧ a ≠ d ∧ a ≠ e ∧ a ≠ f ∧ a ≠ g) ∧ (b ≠ c ∧ b ≠ d ∧ b ≠ e ∧ b ≠ f ∧ b ≠ g) ∧ (c ≠ d ∧ c ≠ e ∧ c ≠ f ∧ c ≠ g) ∧ (d ≠ e ∧ d ≠ f ∧ d ≠ g) ∧ (e ≠ f ∧ e ≠ g) ∧ f ≠ g := by
 simpa [List.nodup_cons, not_or, and_assoc] using h
theorem StV.dvstep {zs' : List Zn} (h : StV D W k st c) (hs : Step 122 D W k.pd st.s zs' W') (hw : Wf st.s zs') : Sv D W k { st with zs := zs' } c W' := by
 obtain ⟨hd, ho⟩ := hs
 have hlen : zs'.length = st.zs.length := by have := hw.len; have := h.wf.len; omega
 have hn : ∀ x, k.has x → ¬ D x := h.nd
 refine ⟨Ext D W W', ⟨ho.blk h.hp (hn _ (.inl rfl)), hd, h.sg.out ho (hn _ (.inr (.inl rfl))) (hn _ (.inr (.inr (.inl rfl)))), h.mp.out ho ?_, ho.blk h.hl (hn _ (.inr (.inr (.inr (.inr (.inr (.inr rfl))))))), hw, h.fq, by rw [hlen]; exact h.len, ?_, ?_, h.ap⟩, ?_, ho.mono (fun j e _ => .inl e)⟩
 ·rintro x (rfl | rfl | rfl)
  ·exact hn _ (.inr (.inr (.inr (.inl rfl))))
  ·exact hn _ (.inr (.inr (.inr (.inr (.inl rfl)))))
  ·exact hn _ (.inr (.inr (.inr (.inr (.inr (.inl rfl))))))
 ·rintro x (hx | hx)
  ·exact Nat.lt_of_lt_of_le (h.lt x hx) ho.size
  ·exact hx.2
 ·rintro x hx (hd | hd)
  ·exact hn x hx hd
  ·have := h.kin x hx; omega
 ·rintro x (hx | hx)
  ·exact .inl hx
  ·exact .inr hx.1
theorem StV.sgstep {L' : List Int} (h : StV D W k st c) (hs : SegP W' k.pg k.gg st.s.r L') (ho : Out (fun j => j = k.gg) W W') (hl : L'.length = st.L.length) : Sv D W k { st with L := L' } c W' := by
 obtain ⟨a1, a2, a3, a4, a5, a6⟩ := nodup7 h.ap
 have hg := h.nd k.gg (.inr (.inr (.inl rfl)))
 refine ⟨D, ⟨ho.blk h.hp (by omega), ?_, hs, h.mp.out ho ?_, ho.blk h.hl (by omega), h.wf, h.fq, by rw [hl]; exact h.len, fun x hx => Nat.lt_of_lt_of_le (h.lt x hx) ho.size, h.nd, h.ap⟩, fun x hx => .inl hx, ho.mono (fun j e _ => .inr (.inr (.inr (.inl e))))⟩
 ·obtain ⟨g, cc, vs, hv⟩ := h.dv
  exact ⟨g, cc, vs, hv.out ho (fun x hx e => by subst e; exact hg hx)⟩
 ·rintro x (rfl | rfl | rfl) <;> omega
theorem StV.mpstep {S' : List Pl} (h : StV D W k st c) (hs : LmP W' k.pm k.b1 k.b2 S' c') (ho : Out (Two k.b1 k.b2) W W') : Sv D W k { st with S := S' } c' W' := by
 obtain ⟨a1, a2, a3, a4, a5, a6⟩ := nodup7 h.ap
 have h1 := h.nd k.b1 (.inr (.inr (.inr (.inr (.inl rfl)))))
 have h2 := h.nd k.b2 (.inr (.inr (.inr (.inr (.inr (.inl rfl))))))
 refine ⟨D, ⟨ho.blk h.hp (by unfold Two; omega), ?_, h.sg.out ho (by unfold Two; omega) (by unfold Two; omega), hs, ho.blk h.hl (by unfold Two; omega), h.wf, h.fq, h.len, fun x hx => Nat.lt_of_lt_of_le (h.lt x hx) ho.size, h.nd, h.ap⟩, fun x hx => .inl hx, ho.mono (fun j e _ => by rcases e with e | e; exact .inr (.inr (.inr (.inr (.inr (.inl e))))); exact .inr (.inr (.inr (.inr (.inr (.inr (.inl e)))))))⟩
 obtain ⟨g, cc, vs, hv⟩ := h.dv
 exact ⟨g, cc, vs, hv.out ho (fun x hx e => by rcases e with e | e <;> subst e; exact h1 hx; exact h2 hx)⟩
theorem StV.setP (h : StV D W k st c) {q o : Int} {i : Nat} {v : Value} (hL : (stL k st.q st.la.length st.o).set i v = stL k q st.la.length o) (hq : FitsU q) : Sv D W k { st with q := q, o := o } c (W.setCell ⟨k.ps, i, none⟩ v) := by
 obtain ⟨a1, a2, a3, a4, a5, a6⟩ := nodup7 h.ap
 have n1 : ¬ k.pg = k.ps := fun e => a1.1 e.symm
 have n2 : ¬ k.gg = k.ps := fun e => a1.2.1 e.symm
 have n3 : ¬ k.lb = k.ps := fun e => a1.2.2.2.2.2 e.symm
 have n4 : ∀ x, x = k.pm ∨ x = k.b1 ∨ x = k.b2 → ¬ x = k.ps := by
  rintro x (rfl | rfl | rfl) e
  ·exact a1.2.2.1 e.symm
  ·exact a1.2.2.2.1 e.symm
  ·exact a1.2.2.2.2.1 e.symm
 have hg := h.nd k.ps (.inl rfl)
 have ho : Out (fun j => j = k.ps) W (W.setCell ⟨k.ps, i, none⟩ v) := out_one W k.ps i v
 have hp := h.hp.set i v
 rw [hL] at hp
 clear hL a1 a2 a3 a4 a5 a6
 generalize W.setCell ⟨k.ps, i, none⟩ v = W' at ho hp ⊢
 have dv : Dv 122 D W' k.pd st.s st.zs := by
  obtain ⟨g, cc, vs, hv⟩ := h.dv
  exact ⟨g, cc, vs, hv.out ho (fun x hx e => by subst e; exact hg hx)⟩
 have hlt : ∀ x, D x → x < W'.heap.size := fun x hx => Nat.lt_of_lt_of_le (h.lt x hx) ho.size
 exact ⟨D, ⟨hp, dv, h.sg.out ho n1 n2, h.mp.out ho n4, ho.blk h.hl n3, h.wf, hq, h.len, hlt, h.nd, h.ap⟩, fun x hx => .inl hx, ho.mono (fun j e _ => .inr (.inl e))⟩
theorem kInts_set (kk : IntKind) (L : List Int) (i : Nat) (b : Int) : (kInts kk L).set i (.int kk b) = kInts kk (L.set i b) := by simp [kInts, List.map_set]
theorem StV.setLa (h : StV D W k st c) (i : Nat) (b : Int) : Sv D W k { st with la := st.la.set i b } c (W.setCell ⟨k.lb, i, none⟩ (.int .u64 b)) := by
 obtain ⟨a1, a2, a3, a4, a5, a6⟩ := nodup7 h.ap
 have hg := h.nd k.lb (.inr (.inr (.inr (.inr (.inr (.inr rfl))))))
 have ho : Out (fun j => j = k.lb) W (W.setCell ⟨k.lb, i, none⟩ (.int .u64 b)) := out_one W k.lb i _
 have hp := h.hl.set i (.int .u64 b)
 rw [kInts_set] at hp
 generalize W.setCell ⟨k.lb, i, none⟩ (.int .u64 b) = W' at ho hp ⊢
 refine ⟨D, ⟨?_, ?_, h.sg.out ho (by omega) (by omega), h.mp.out ho ?_, hp, h.wf, h.fq, ⟨h.len.1, by simpa using h.len.2⟩, fun x hx => Nat.lt_of_lt_of_le (h.lt x hx) ho.size, h.nd, h.ap⟩, fun x hx => .inl hx, ho.mono (fun j e _ => .inr (.inr (.inr (.inr (.inr (.inr (.inr e)))))))⟩
 ·have := ho.blk h.hp (by omega)
  simpa using this
 ·obtain ⟨g, cc, vs, hv⟩ := h.dv
  exact ⟨g, cc, vs, hv.out ho (fun x hx e => by subst e; exact hg hx)⟩
 ·rintro x (rfl | rfl | rfl) <;> omega
theorem StV.mono (h : StV D W k st c) (hc : c ≤ c') : StV D W k st c' := ⟨h.hp, h.dv, h.sg, h.mp.mono hc, h.hl, h.wf, h.fq, h.len, h.lt, h.nd, h.ap⟩
theorem Sv.mono (h : Sv D0 V k st c W) (hc : c ≤ c') : Sv D0 V k st c' W := by
 obtain ⟨D, h1, h2⟩ := h
 exact ⟨D, h1.mono hc, h2⟩
theorem StV.cells (h : StV D W k st c) : W.cell? ⟨k.ps, 0, none⟩ = some (.pointer (some ⟨k.pd, 0, none⟩)) ∧ W.cell? ⟨k.ps, 1, none⟩ = some (.pointer (some ⟨k.pg, 0, none⟩)) ∧ W.cell? ⟨k.ps, 2, none⟩ = some (.pointer (some ⟨k.pm, 0, none⟩)) ∧ W.cell? ⟨k.ps, 3, none⟩ = some (.int .u64 st.q) ∧ W.cell? ⟨k.ps, 4, none⟩ = some (.slice (some ⟨k.lb, 0, none⟩) st.la.length st.la.length) ∧ W.cell? ⟨k.ps, 5, none⟩ = some (.int .i64 st.o) :=
 ⟨h.hp.cell 0, h.hp.cell 1, h.hp.cell 2, h.hp.cell 3, h.hp.cell 4, h.hp.cell 5⟩
end

theorem BIn.out {O : Nat → Prop} {w w' : World} {a : Option Addr} {n : Nat} {zs : List Int} (h : BIn w a n zs) (ho : Out O w w') (hO : n ≠ 0 → ∀ b, a.map (·.block) = some b → ¬ O b) : BIn w' a n zs := by
 obtain ⟨h1, h2, h3, h4⟩ := h
 refine ⟨h1, h2, h3, ?_⟩
 by_cases hn : n = 0
 ·exact .inl hn
 ·obtain ⟨b, off, ha, hc⟩ := h4.resolve_left hn
  exact .inr ⟨b, off, ha, fun i hi => ho.cell (hc i hi) (hO hn b (by rw [ha]; rfl))⟩
def ptL (p : Pt) (v : Value) : List Value := [.int .u32 p.t, .int .u64 p.b, .bool p.x, v]
def PtAt (X : Nat → Prop) (w : World) (b o : Nat) (p : Pt) : Prop :=
 ∃ A L C, (∀ (j : Nat) (v : Value), (ptL p (.slice A L C))[j]? = some v → w.cell? ⟨b, o + j, none⟩ = some v) ∧ BIn w A L p.d ∧ (A = none → L = 0 ∧ C = 0) ∧ L ≤ 10000 ∧ (L ≠ 0 → ∀ y, A.map (·.block) = some y → X y) ∧ p.Fits
def PtsIn (X : Nat → Prop) (w : World) (a : Option Addr) (n : Nat) (l : List Pt) : Prop :=
 l.length = n ∧ n ≤ 1000 ∧ (n = 0 ∨ ∃ b off, a = some ⟨b, off, none⟩ ∧ X b ∧ ∀ (i : Nat) (p : Pt), l[i]? = some p → PtAt X w b (off + i * 4) p)
section
variable {X O : Nat → Prop} {w w' : World} {a : Option Addr} {n : Nat} {l : List Pt}
theorem PtAt.out {b o : Nat} {p : Pt} (h : PtAt X w b o p) (ho : Out O w w') (hb : ¬ O b) (hO : ∀ x, X x → ¬ O x) : PtAt X w' b o p := by
 obtain ⟨A, L, C, h1, h2, h3, h4, h5, h6⟩ := h
 exact ⟨A, L, C, fun j v hv => ho.cell (h1 j v hv) hb, h2.out ho (fun hn y hy => hO y (h5 hn y hy)), h3, h4, h5, h6⟩
theorem PtsIn.out (h : PtsIn X w a n l) (ho : Out O w w') (hO : ∀ x, X x → ¬ O x) : PtsIn X w' a n l := by
 obtain ⟨h1, h2, h3⟩ := h
 refine ⟨h1, h2, ?_⟩
 rcases h3 with h3 | ⟨b, off, ha, hb, hc⟩
 ·exact .inl h3
 ·exact .inr ⟨b, off, ha, hb, fun i p hp => (hc i p hp).out ho (hO b hb) hO⟩
theorem PtsIn.below (h : PtsIn X w a n l) (hb : Below w.heap.size w w') : PtsIn X w' a n l := h.out (below_out Non hb) (fun _ _ e => e)
theorem PtsIn.fits (h : PtsIn X w a n l) : ∀ p ∈ l, p.Fits := by
 intro p hp
 obtain ⟨i, hi⟩ := List.getElem?_of_mem hp
 rcases h.2.2 with h0 | ⟨b, off, _, _, hc⟩
 ·have := (List.getElem?_eq_some_iff.1 hi).1; have := h.1; omega
 ·obtain ⟨_, _, _, _, _, _, _, _, h6⟩ := hc i p hi
  exact h6
theorem PtsIn.part {b off : Nat} (h : PtsIn X w (some ⟨b, off, none⟩) n l) (i m : Nat) (hik : i + m ≤ n) : PtsIn X w (some ⟨b, off + i * 4, none⟩) m ((l.drop i).take m) := by
 obtain ⟨h1, h2, h4⟩ := h
 refine ⟨by rw [List.length_take, List.length_drop]; omega, by omega, ?_⟩
 by_cases h0 : m = 0
 ·exact .inl h0
 ·obtain ⟨b', off', e, hb, hc⟩ := h4.resolve_left (by omega)
  cases e
  refine .inr ⟨_, _, rfl, hb, fun k x hx => ?_⟩
  have hk : k < m := by have := (List.getElem?_eq_some_iff.1 hx).1; rw [List.length_take] at this; omega
  rw [List.getElem?_take_of_lt hk, List.getElem?_drop] at hx
  have := hc (i + k) x hx
  rw [show off + (i + k) * 4 = off + i * 4 + k * 4 by omega] at this
  exact this
theorem PtsIn.front (h : PtsIn X w a n l) (m : Nat) (hm : m ≤ n) : PtsIn X w a m (l.take m) := by
 by_cases h0 : m = 0
 ·subst h0
  exact ⟨by simp, Nat.zero_le _, .inl rfl⟩
 ·obtain ⟨b, off, rfl, _⟩ := h.2.2.resolve_left (by omega)
  simpa using h.part 0 m (by omega)
theorem PtsIn.back {c : Nat} (h : PtsIn X w a n l) (i : Nat) (hi : i ≤ n) (hc : n ≤ c) : PtsIn X w (kleft a c i) (n - i) (l.drop i) := by
 by_cases h0 : n - i = 0
 ·exact ⟨by rw [List.length_drop, h.1], by have := h.2.1; omega, .inl h0⟩
 ·obtain ⟨b, off, rfl, _⟩ := h.2.2.resolve_left (by omega)
  unfold kleft
  rw [if_neg (by omega)]
  have := h.part i (n - i) (by omega)
  rw [List.take_of_length_le (by rw [List.length_drop, h.1]; exact Nat.le_refl _)] at this
  simpa [Addr.add_mid] using this
end
theorem Tryz.four_puts : ∀ w : World, (sizeOf (Tryz.prog.elem 72)).run Tryz.prog w = .ok 4 w := fun _ => by kernel_rfl
theorem pslice_front (a : Option Addr) (n c k : Nat) (hk : k ≤ c) (w : World) :
  (Instr.slice 72 (.slice a n c) none (some (.int .i64 (k : Int))) none).run Tryz.prog w = .ok (.slice a k c) w := by
 rw [run_slice_h (P := Tryz.prog) w 72 a n c Tryz.underlying72 .i64 k (by omega) (by omega), Tryz.four_puts w]
 simp only [Result.andThen, Int.toNat_natCast]
 unfold sliced
 cases a with
 | none => simp
 | some x => simp [Addr.add]
theorem pslice_back (a : Option Addr) (n c k : Nat) (hk : k ≤ n) (w : World) :
  (Instr.slice 72 (.slice a n c) (some (.int .i64 (k : Int))) none none).run Tryz.prog w = .ok (.slice (kleft a c k) (n - k) (c - k)) w := by
 rw [run_slice_l (P := Tryz.prog) w 72 a n c Tryz.underlying72 .i64 k (by omega) (by omega), Tryz.four_puts w]
 simp only [Result.andThen, Int.toNat_natCast]
 rfl
end Go.Proofs.YtncnkpnfmbgifaaGreat

/- What one call of turn, Fill, Clear, Found, Index, Take does. -/
namespace Go.Proofs.YtncnkpnfmbgifaaGreat
open Go.RowKit
set_option linter.unusedVariables false
set_option maxRecDepth 4000

def TurnGot (w : World) (p g : Nat) (r : Int) (L : List Int) (z a b : Int) (e : Ending) (w' : World) : Prop :=
 e = .returned (.bool (decide (stZ L z = a))) ∧ SegP w' p g r (turnZ L z a b) ∧ Out (fun j => j = g) w w'
theorem gTurn_of (p g : Nat) (r : Int) (L : List Int) (z a b : Int) (w : World) (h : SegP w p g r L) (ha : a ≠ 0) (hb : Fits8 b) :
  Calls Tryz.prog 140 #[.pointer (some ⟨p, 0, none⟩), .int .i64 z, .int .u8 a, .int .u8 b] w fun e w' => TurnGot w p g r L z a b e w' := by
 obtain ⟨S, hS⟩ : ∃ S, S = stZ L z := ⟨_, rfl⟩
 have hst := gState_of p g r L z w h
 rw [← hS] at hst
 by_cases hq : S = a
 ·have hst0 : stZ L z = a := hS.symm.trans hq
  obtain ⟨z0, z1⟩ := stZ_in hst0 ha
  obtain ⟨i, rfl⟩ : ∃ i : Nat, z = i := ⟨z.toNat, by omega⟩
  have hi : i < L.length := by omega
  have fin : TurnGot w p g r L i a b (.returned (.bool true)) (w.setCell ⟨g, i, none⟩ (.int .u8 b)) := by
   refine ⟨by rw [decide_eq_true hst0], ?_, out_one _ _ _ _⟩
   unfold turnZ
   rw [if_pos hst0]
   exact h.set i hb
  have HF : Hid (TurnGot w p g r L i a b (.returned (.bool true)) (w.setCell ⟨g, i, none⟩ (.int .u8 b))) := fin
  have HT : Hid (Calls Tryz.prog 24 #[.pointer (some ⟨p, 0, none⟩), .int .i64 i] w fun e w' => e = .returned (.int .u8 S) ∧ w' = w) := hst
  have c0 := h.c0
  have c1 := h.at hi
  have z2 := h.free i
  generalize L.getD i 0 = X at c1
  generalize hN : L.length = N at c0 hi
  clear fin hst hst0 z0 z1 h hS hN ha hb
  subst hq
  go_enter Tryz.func140, Tryz.ntmps140
  go_wp2_with (go_at_call 24; refine HT.out.mono ?_; rintro e w' ⟨rfl, rfl⟩)
  go_ret
  exact HF.out
 ·have hst0 : ¬ stZ L z = a := fun e => hq (hS.trans e)
  have fin : TurnGot w p g r L z a b (.returned (.bool false)) w := by
   refine ⟨by rw [decide_eq_false hst0], ?_, Out.refl _ _⟩
   unfold turnZ
   rw [if_neg hst0]
   exact h
  have HF : Hid (TurnGot w p g r L z a b (.returned (.bool false)) w) := fin
  have HT : Hid (Calls Tryz.prog 24 #[.pointer (some ⟨p, 0, none⟩), .int .i64 z] w fun e w' => e = .returned (.int .u8 S) ∧ w' = w) := hst
  clear fin hst hst0 h hS ha hb
  go_enter Tryz.func140, Tryz.ntmps140
  go_wp2_with (go_at_call 24; refine HT.out.mono ?_; rintro e w' ⟨rfl, rfl⟩)
  go_ret
  exact HF.out
theorem gFill_of (p g : Nat) (r : Int) (L : List Int) (z : Int) (w : World) (h : SegP w p g r L) :
  Calls Tryz.prog 123 #[.pointer (some ⟨p, 0, none⟩), .int .i64 z] w fun e w' => TurnGot w p g r L z 2 3 e w' := by
 have HT : Hid (Calls Tryz.prog 140 #[.pointer (some ⟨p, 0, none⟩), .int .i64 z, .int .u8 2, .int .u8 3] w fun e w' => TurnGot w p g r L z 2 3 e w') := gTurn_of p g r L z 2 3 w h (by decide) (by unfold Fits8; omega)
 clear h
 go_enter Tryz.func123, Tryz.ntmps123
 go_wp2_with (go_at_call 140; refine HT.out.mono ?_; rintro e w' ⟨rfl, h1, h2⟩)
 go_ret
 exact ⟨rfl, h1, h2⟩
theorem gClear_of (p g : Nat) (r : Int) (L : List Int) (z : Int) (w : World) (h : SegP w p g r L) :
  Calls Tryz.prog 88 #[.pointer (some ⟨p, 0, none⟩), .int .i64 z] w fun e w' => TurnGot w p g r L z 3 1 e w' := by
 have HT : Hid (Calls Tryz.prog 140 #[.pointer (some ⟨p, 0, none⟩), .int .i64 z, .int .u8 3, .int .u8 1] w fun e w' => TurnGot w p g r L z 3 1 e w') := gTurn_of p g r L z 3 1 w h (by decide) (by unfold Fits8; omega)
 clear h
 go_enter Tryz.func88, Tryz.ntmps88
 go_wp2_with (go_at_call 140; refine HT.out.mono ?_; rintro e w' ⟨rfl, h1, h2⟩)
 go_ret
 exact ⟨rfl, h1, h2⟩
theorem index_of (p g : Nat) (r : Int) (L : List Int) (a : Int) (w : World) (h : SegP w p g r L) :
  Calls Tryz.prog 208 #[.slice (some ⟨g, 0, none⟩) L.length L.length, .int .u8 a] w fun e w' => e = .returned (.int .i64 (if firstN L a < L.length then (firstN L a : Int) else -1)) ∧ w' = w := by
 obtain ⟨N, hN⟩ : ∃ N, N = L.length := ⟨_, rfl⟩
 obtain ⟨R, hR⟩ : ∃ R : Int, R = (if firstN L a < L.length then (firstN L a : Int) else -1) := ⟨_, rfl⟩
 rw [← hR]
 have HS : Hid (SegP w p g r L ∧ N = L.length ∧ R = (if firstN L a < L.length then (firstN L a : Int) else -1)) := ⟨h, hN, hR⟩
 rw [← hN]
 clear h hN hR
 go_enter Tryz.func208, Tryz.ntmps208
 go_wp2
 go_loopw [8] (fun i wr => ∃ k : Nat, i = .int .i64 k ∧ k ≤ N ∧ (∀ j, j < k → L.getD j 0 ≠ a) ∧ wr = w) (fun i wr => N - (intOf i).toNat)
 case atStart => exact ⟨0, rfl, Nat.zero_le _, fun j hj => by omega, rfl⟩
 case round =>
  obtain ⟨k, rfl, hk, hno, rfl⟩ := hrel
  have HN : Hid (∀ j, j < k → L.getD j 0 ≠ a) := hno
  clear hno
  rcases Nat.lt_or_ge k N with hlt | hge
  ·have c1 := HS.out.1.at (i := k) (by rw [← HS.out.2.1]; exact hlt)
   obtain ⟨X, hX⟩ : ∃ X, X = L.getD k 0 := ⟨_, rfl⟩
   rw [← hX] at c1
   have HX : Hid (X = L.getD k 0) := hX
   have hw : IntKind.i64.wrap ((k : Int) + 1) = (k : Int) + 1 := by have := HS.out.1.len.2; have := HS.out.2.1; rw [IntKind.wrap_i64]; omega
   clear hX
   by_cases hq : a = X
   ·have HQ : Hid (a = X) := hq
    subst hq
    go_wp2
    go_ret
    refine ⟨?_, rfl⟩
    have e : firstN L a = k := first_is (by rw [← HS.out.2.1]; exact hlt) HX.out.symm HN.out
    rw [HS.out.2.2, e, if_pos (by rw [← HS.out.2.1]; exact hlt)]; rfl
   ·have HQ : Hid (¬ a = X) := hq
    go_wp2
    go_roundw
    case rel =>
     refine ⟨k + 1, by simp, by omega, fun j hj => ?_, (by first | rfl | trivial)⟩
     rcases Nat.lt_or_ge j k with h1 | h1
     ·exact HN.out j h1
     ·obtain rfl : j = k := by omega
      rw [← HX.out]; exact fun e => HQ.out e.symm
    case measure => simp [intOf]; omega
  ·obtain rfl : k = N := by omega
   go_wp2
   go_ret
   refine ⟨?_, rfl⟩
   have e : firstN L a = L.length := first_none (fun j hj => HN.out j (by rw [HS.out.2.1]; exact hj))
   rw [HS.out.2.2, e, if_neg (by omega)]; rfl

def TakeGot (w : World) (p g : Nat) (r : Int) (L : List Int) (e : Ending) (w' : World) : Prop :=
 e = .returned (.tuple #[.int .i64 (takeI L), .bool (takeB L)]) ∧ SegP w' p g r (takeZ L) ∧ Out (fun j => j = g) w w'
theorem gTake_of (p g : Nat) (r : Int) (L : List Int) (w : World) (h : SegP w p g r L) :
  Calls Tryz.prog 179 #[.pointer (some ⟨p, 0, none⟩)] w fun e w' => TakeGot w p g r L e w' := by
 have hix := index_of p g r L 1 w h
 have c0 := h.c0
 by_cases hf : firstN L 1 < L.length
 ·rw [if_pos hf] at hix
  have ht := gTurn_of p g r L (firstN L 1) 1 2 w h (by decide) (by unfold Fits8; omega)
  have hs1 : stZ L (firstN L 1) = 1 := by rw [stZ_nat]; exact first_at hf
  have fin : ∀ e w', TurnGot w p g r L (firstN L 1) 1 2 e w' → e = .returned (.bool true) ∧ TakeGot w p g r L (.returned (.tuple #[.int .i64 (firstN L 1), .bool true])) w' := by
   rintro e w' ⟨rfl, h1, h2⟩
   refine ⟨by rw [decide_eq_true hs1], ?_, ?_, h2⟩
   ·simp [takeI, takeB, hf]
   ·rw [take_turn, if_pos hf]; exact h1
  have HF : Hid (∀ e w', TurnGot w p g r L (firstN L 1) 1 2 e w' → e = .returned (.bool true) ∧ TakeGot w p g r L (.returned (.tuple #[.int .i64 (firstN L 1), .bool true])) w') := fin
  generalize TurnGot w p g r L (firstN L 1) 1 2 = T' at HF ht
  have hlt0 : ¬ ((firstN L 1 : Nat) : Int) < 0 := by omega
  generalize hF : firstN L 1 = F at HF ht hix hlt0
  generalize L.length = N at c0 hix
  clear fin hs1 h hf
  have HI : Hid (Calls Tryz.prog 208 #[.slice (some ⟨g, 0, none⟩) N N, .int .u8 1] w fun e w' => e = .returned (.int .i64 F) ∧ w' = w) := hix
  have HT : Hid (Calls Tryz.prog 140 #[.pointer (some ⟨p, 0, none⟩), .int .i64 F, .int .u8 1, .int .u8 2] w fun e w' => T' e w') := ht
  clear hix ht hF
  go_enter Tryz.func179, Tryz.ntmps179
  go_wp2_with (first
   | (go_at_call 208; refine HI.out.mono ?_; rintro e w' ⟨rfl, rfl⟩)
   | (go_at_call 140; refine HT.out.mono ?_; intro e w2 hx; obtain ⟨rfl, hx2⟩ := HF.out _ _ hx))
  go_ret2
  exact hx2
 ·rw [if_neg hf] at hix
  have fin : TakeGot w p g r L (.returned (.tuple #[.int .i64 0, .bool false])) w := by
   refine ⟨?_, ?_, Out.refl _ _⟩
   ·simp [takeI, takeB, hf]
   ·unfold takeZ; rw [if_neg hf]; exact h
  have HF : Hid (TakeGot w p g r L (.returned (.tuple #[.int .i64 0, .bool false])) w) := fin
  generalize L.length = N at c0 hix
  clear fin h hf
  have HI : Hid (Calls Tryz.prog 208 #[.slice (some ⟨g, 0, none⟩) N N, .int .u8 1] w fun e w' => e = .returned (.int .i64 (-1)) ∧ w' = w) := hix
  clear hix
  go_enter Tryz.func179, Tryz.ntmps179
  go_wp2_with (go_at_call 208; refine HI.out.mono ?_; rintro e w' ⟨rfl, rfl⟩)
  go_ret2
  exact HF.out
end Go.Proofs.YtncnkpnfmbgifaaGreat

/- What one call of need, room, current of the store does. -/
namespace Go.Proofs.YtncnkpnfmbgifaaGreat
open Go.RowKit
set_option linter.unusedVariables false
set_option maxRecDepth 4000

def ptV (p : Pt) (v : Value) : Value := .agg #[.int .u32 p.t, .int .u64 p.b, .bool p.x, v]
theorem need_of (p : Pt) (v : Value) (w : World) : Calls Tryz.prog 72 #[ptV p v] w fun e w' => e = .returned (.int .i64 (needP p)) ∧ Below w.heap.size w w' := by
 obtain ⟨t, b, x, d⟩ := p
 have hb : Below w.heap.size w (w.alloc (.cells #[.int .u32 t, .int .u64 b, .bool x, v] 71)) := (Below.refl _ _).alloc (Nat.le_refl _) _
 unfold ptV
 cases x
 all_goals (
  go_enter Tryz.func72, Tryz.ntmps72
  go_wp2
  go_ret
  exact ⟨rfl, hb⟩)
section
variable {D : Nat → Prop} {W : World} {k : Bs} {st : St} {c : Nat}
theorem dshape_of {T : Nat → Prop} {p : Nat} {s : Sh} {zs : List Zn} (hd : Dv 122 T W p s zs) :
  Calls Tryz.prog 54 #[.pointer (some ⟨p, 0, none⟩)] W fun e w' => e = .returned (.agg #[.int .i64 s.z, .int .i64 s.zb, .int .i64 s.b, .int .i64 s.r]) ∧ Below W.heap.size W w' := shape_of hd
theorem Tryz.shape_zb (z zb b r : Value) : ∀ w : World, (Instr.field 23 (.agg #[z, zb, b, r]) 1).run Tryz.prog w = .ok zb w := fun _ => by kernel_rfl
theorem Tryz.shape_b (z zb b r : Value) : ∀ w : World, (Instr.field 23 (.agg #[z, zb, b, r]) 2).run Tryz.prog w = .ok b w := fun _ => by kernel_rfl
theorem own_first {w : World} {B : Nat} {e : TypeId} {A : Option Addr} {n m cc : Nat} {v : Value} {vs : List Value} (h : w.ownsRow B e 1 (.slice A n cc) m (v :: vs)) : ∃ g, A = some ⟨g, 0, none⟩ ∧ w.cell? ⟨g, 0, none⟩ = some v := by
 rcases h.2 with ⟨hv, hn⟩ | ⟨g, cap, cur, hv, r⟩
 ·have := h.1; simp [hn] at this
 ·simp only [Value.slice.injEq] at hv
  obtain ⟨rfl, _, _⟩ := hv
  have := h.cells (g := g) rfl 0 v (by simp)
  exact ⟨g, rfl, by simpa [Addr.add] using this⟩
theorem Wf.at_le {s : Sh} {zs : List Zn} (h : Wf s zs) (a : Int) : ((atZ zs a).1.length : Int) ≤ s.zb := by
 have h8 := h.right.2.2.1
 unfold atZ
 split
 ·rw [List.getD_eq_getElem?_getD]
  cases hz : zs[a.toNat]? with
  | none => simp; omega
  | some z => exact (h.zone z (List.mem_of_getElem? hz)).1
 ·simp; omega
set_option maxHeartbeats 1000000 in
theorem sroom_of (a : Int) (h : StV D W k st c) : Calls Tryz.prog 75 #[.pointer (some ⟨k.ps, 0, none⟩), .int .i64 a] W fun e w' => e = .returned (.int .i64 (roomZ st.s st.zs a)) ∧ Below W.heap.size W w' := by
 obtain ⟨c0, _⟩ := h.cells
 obtain ⟨N, hN⟩ : ∃ N, N = (atZ st.zs a).1.length := ⟨_, rfl⟩
 have hN1 : (N : Int) ≤ st.s.zb := by rw [hN]; exact h.wf.at_le a
 have hzb := h.wf.right.2.2.2.1
 have hw : IntKind.i64.wrap (st.s.zb - (N : Int)) = st.s.zb - (N : Int) := by rw [IntKind.wrap_i64]; omega
 have H : Hid (StV D W k st c ∧ N = (atZ st.zs a).1.length) := ⟨h, hN⟩
 have HA : Hid (Calls Tryz.prog 26 #[.pointer (some ⟨k.pd, 0, none⟩), .int .i64 a] W fun e w' => e = .returned (.tuple #[.int .i64 (N : Nat), .int .i64 (atZ st.zs a).2]) ∧ StV D w' k st c ∧ Below W.heap.size W w') := by
  refine (at_of a h.dv).mono ?_
  rintro e w' ⟨rfl, hb⟩
  exact ⟨by rw [hN], h.under hb, hb⟩
 have hfd := Tryz.shape_zb (.int .i64 st.s.z) (.int .i64 st.s.zb) (.int .i64 st.s.b) (.int .i64 st.s.r)
 clear h hN hN1 hzb
 go_enter Tryz.func75, Tryz.ntmps75
 go_wp2_with (first
  | (go_at_call 26; refine HA.out.mono ?_; rintro e w2 ⟨rfl, hs2, hb2⟩; obtain ⟨d0, _⟩ := hs2.cells; have hsh := dshape_of hs2.dv; have H2 : Hid (Below W.heap.size W w2) := hb2; clear hs2 hb2)
  | (go_at_call 54; refine hsh.mono ?_; rintro e w3 ⟨rfl, hb3⟩))
 go_ret
 refine ⟨?_, H2.out.trans (hb3.mono H2.out.size)⟩
 unfold roomZ
 rw [← H.out.2]
 all_goals first | rfl | simp [hw]
set_option maxHeartbeats 1000000 in
theorem current_of (h : StV D W k st c) : Calls Tryz.prog 122 #[.pointer (some ⟨k.ps, 0, none⟩)] W fun e w' => e = .returned (.tuple #[.int .i64 (curA st.L), .bool (curB st.L)]) ∧ Sv D W k { st with L := curL st.L } c w' := by
 obtain ⟨_, c1, _⟩ := h.cells
 have hg := gList_of k.pg k.gg st.s.r st.L 2 W h.sg
 have H : Hid (StV D W k st c) := h
 cases hl : listZ st.L 2 with
 | cons z r =>
  have HA : Hid (curA st.L = z ∧ curB st.L = true ∧ curL st.L = st.L) := by unfold curA curB curL; rw [hl]; exact ⟨rfl, rfl, rfl⟩
  rw [hl] at hg
  have HG : Hid (Calls Tryz.prog 29 #[.pointer (some ⟨k.pg, 0, none⟩), .int .u8 2] W fun e w' => ∃ g cc, e = .returned (.slice (some ⟨g, 0, none⟩) (r.length + 1) cc) ∧ w'.cell? ⟨g, 0, none⟩ = some (.int .i64 z) ∧ Below W.heap.size W w') := by
   refine hg.mono ?_
   rintro e w' ⟨A, cc, rfl, ow, bl⟩
   obtain ⟨g, rfl, hc⟩ := own_first (v := .int .i64 z) (vs := kInts .i64 r) ow
   exact ⟨g, cc, rfl, hc, bl⟩
  clear h hg hl
  go_enter Tryz.func122, Tryz.ntmps122
  go_wp2_with (go_at_call 29; refine HG.out.mono ?_; rintro e w2 ⟨g, cc, rfl, x0, bl⟩)
  go_ret2
  rw [HA.out.1, HA.out.2.1, HA.out.2.2]
  exact ⟨rfl, (Sv.start H.out).under bl⟩
 | nil =>
  have HA : Hid (curA st.L = takeI st.L ∧ curB st.L = takeB st.L ∧ curL st.L = takeZ st.L) := by unfold curA curB curL; rw [hl]; exact ⟨rfl, rfl, rfl⟩
  rw [hl] at hg
  have HG : Hid (Calls Tryz.prog 29 #[.pointer (some ⟨k.pg, 0, none⟩), .int .u8 2] W fun e w' => ∃ A cc, e = .returned (.slice A 0 cc) ∧ w'.cell? ⟨k.ps, 1, none⟩ = some (.pointer (some ⟨k.pg, 0, none⟩)) ∧ Calls Tryz.prog 179 #[.pointer (some ⟨k.pg, 0, none⟩)] w' fun e w'' => e = .returned (.tuple #[.int .i64 (takeI st.L), .bool (takeB st.L)]) ∧ Sv D W k { st with L := takeZ st.L } c w'') := by
   refine hg.mono ?_
   rintro e w' ⟨A, cc, rfl, ow, bl⟩
   have hs := h.under bl
   refine ⟨A, cc, rfl, hs.cells.2.1, (gTake_of k.pg k.gg st.s.r st.L w' hs.sg).mono ?_⟩
   rintro e w'' ⟨rfl, h1, h2⟩
   exact ⟨rfl, (hs.sgstep h1 h2 (takeZ_length _)).from bl⟩
  clear h hg hl
  go_enter Tryz.func122, Tryz.ntmps122
  go_wp2_with (first
   | (go_at_call 29; refine HG.out.mono ?_; rintro e w2 ⟨A, cc, rfl, x1, ht⟩)
   | (go_at_call 179; refine ht.mono ?_; rintro e w3 ⟨rfl, sv⟩))
  go_ret2
  rw [HA.out.1, HA.out.2.1, HA.out.2.2]
  exact ⟨rfl, sv⟩
end
end Go.Proofs.YtncnkpnfmbgifaaGreat

/- What one call of Get of the store does. -/
namespace Go.Proofs.YtncnkpnfmbgifaaGreat
open Go.RowKit
set_option linter.unusedVariables false
set_option maxRecDepth 4000
def memT (st : St) : Pr → Option (List Int) := memS st.zs st.S
section
variable {D : Nat → Prop} {W : World} {k : Bs} {st : St} {c : Nat}
theorem mem_read {zs : List Zn} {S : List Pl} (h : Plc zs S) {n a : Pr} (hg : getS S n = some a) : ∃ E, memS zs S n = some E ∧ rdE zs a.1 a.2 = 0 ∧ rdB zs a.1 a.2 = E := by
 obtain ⟨E, hE⟩ := Option.isSome_iff_exists.1 (h.2 (n, a) ((getS_some h.1).1 hg))
 obtain ⟨i, j, z, rfl, hz, hj⟩ := blkZ_some hE
 have := rd_at hz hj
 exact ⟨E, by unfold memS; rw [hg]; exact hE, this⟩
set_option maxHeartbeats 1000000 in
theorem sget_of (h : StV D W k st c) (n : Pr) (hn : FitsN n) (hp : Plc st.zs st.S) :
  Calls Tryz.prog 21 #[.pointer (some ⟨k.ps, 0, none⟩), .int .u32 n.1, .int .u64 n.2] W fun e w' => ∃ v, e = .returned (.tuple #[v, .bool (memT st n).isSome]) ∧ BkAt (fun x => W.heap.size ≤ x) w' v ((memT st n).getD []) ∧ Below W.heap.size W w' := by
 obtain ⟨s0, _, s2, _⟩ := h.cells
 have hG := mGet_of k.pm k.b1 k.b2 st.S c n W h.mp hn
 have H : Hid (StV D W k st c ∧ Plc st.zs st.S) := ⟨h, hp⟩
 cases hg : getS st.S n with
 | none =>
  have hm : memT st n = none := by unfold memT memS; rw [hg]; rfl
  rw [hm]
  rw [hg] at hG
  clear h hp
  have HG : Hid (Calls Tryz.prog 60 #[.pointer (some ⟨k.pm, 0, none⟩), .int .u32 n.1, .int .u64 n.2] W fun e w' => e = .returned (.tuple #[.agg #[.int .i64 0, .int .i64 0], .bool false]) ∧ Below W.heap.size W w') := hG
  clear hG
  go_enter Tryz.func21, Tryz.ntmps21
  go_wp2_with (go_at_call 60; refine HG.out.mono ?_; rintro e W1 ⟨rfl, hb1⟩)
  go_ret2
  exact ⟨_, rfl, BkAt.nil _ _, hb1.alloc hb1.size _⟩
 | some a =>
  obtain ⟨E, hm, hrE, hrB⟩ := mem_read hp hg
  have hm' : memT st n = some E := hm
  rw [hm']
  rw [hg] at hG
  have HG : Hid (Calls Tryz.prog 60 #[.pointer (some ⟨k.pm, 0, none⟩), .int .u32 n.1, .int .u64 n.2] W fun e w' => e = .returned (.tuple #[.agg #[.int .i64 a.1, .int .i64 a.2], .bool true]) ∧ Below W.heap.size W w') := hG
  have HE : Hid (rdE st.zs a.1 a.2 = 0 ∧ rdB st.zs a.1 a.2 = E) := ⟨hrE, hrB⟩
  clear hG h hp hm hm' hrE hrB
  go_enter Tryz.func21, Tryz.ntmps21
  go_wp2_with (go_at_call 60; refine HG.out.mono ?_; rintro e W1 ⟨rfl, hb1⟩)
  have HV : Hid (Below W.heap.size W (W1.alloc (.cells #[.int .i64 a.1, .int .i64 a.2] 49)) ∧ Blk (W1.alloc (.cells #[.int .i64 a.1, .int .i64 a.2] 49)) W1.heap.size [.int .i64 a.1, .int .i64 a.2] 49) := ⟨hb1.alloc hb1.size _, Blk.new' rfl rfl⟩
  clear hb1 s0 s2
  generalize World.alloc W1 _ = V at HV ⊢
  generalize W1.heap.size = ga at HV ⊢
  have t0 := (H.out.1.under HV.out.1).cells.1
  have a0 : V.cell? ⟨ga, 0, none⟩ = some (.int .i64 a.1) := HV.out.2.cell 0
  have a1 : V.cell? ⟨ga, 1, none⟩ = some (.int .i64 a.2) := HV.out.2.cell 1
  have HR2 : Hid (Calls Tryz.prog 61 #[.pointer (some ⟨k.pd, 0, none⟩), .agg #[.int .i64 a.1, .int .i64 a.2]] V.drew fun e w' => ∃ A L C, e = .returned (.tuple #[.slice A L C, .int .u16 0]) ∧ (BkAt (fun x => W.heap.size ≤ x) w' (.slice A L C) E ∧ Below W.heap.size W w') ∧ w'.cell? ⟨k.ps, 0, none⟩ = some (.pointer (some ⟨k.pd, 0, none⟩)) ∧ w'.cell? ⟨ga, 0, none⟩ = some (.int .i64 a.1) ∧ w'.cell? ⟨ga, 1, none⟩ = some (.int .i64 a.2)) := by
   have hbV : Below V.heap.size V V.drew := (Below.refl _ _).drew
   refine (read_of a.1 a.2 (H.out.1.under (HV.out.1.trans (hbV.mono HV.out.1.size))).dv H.out.1.wf).mono ?_
   rintro e w' ⟨v, rfl, h1, h2⟩
   obtain ⟨A, C, hv⟩ := own_slice h1.1
   subst hv
   have hb' : Below V.heap.size V w' := hbV.trans h2
   have hbW := HV.out.1.trans (hb'.mono HV.out.1.size)
   refine ⟨A, _, C, by rw [HE.out.1], ⟨?_, hbW⟩, (H.out.1.under hbW).cells.1, (HV.out.2.below hb' HV.out.2.lt).cell 0, (HV.out.2.below hb' HV.out.2.lt).cell 1⟩
   rw [← HE.out.2]
   exact h1.mono (fun x hx _ => by have := HV.out.1.size; exact Nat.le_trans this hx)
  go_region_held3 (fun Y => Y.cell? ⟨k.ps, 0, none⟩ = some (.pointer (some ⟨k.pd, 0, none⟩)) ∧ Y.cell? ⟨ga, 0, none⟩ = some (.int .i64 a.1) ∧ Y.cell? ⟨ga, 1, none⟩ = some (.int .i64 a.2)) (first | exact ⟨t0, a0, a1⟩ | exact ⟨u0, b0, b1⟩)
   (first | (go_simp; go_at_call 61; refine HR2.out.mono ?_; rintro e V9 ⟨A9, L9, C9, rfl, bk, u0, b0, b1⟩))
  have HB : Hid (BkAt (fun x => W.heap.size ≤ x) V9 (.slice A9 L9 C9) E ∧ Below W.heap.size W V9) := bk
  clear bk u0 b0 b1 t0 a0 a1 HR2
  go_wp2
  go_ret2
  exact ⟨_, rfl, HB.out.1, HB.out.2⟩
end
end Go.Proofs.YtncnkpnfmbgifaaGreat
