/- P49 -/
import Derived.Test.YtcdnjeiamihhbabGreatP48
set_option linter.unusedVariables false
set_option maxRecDepth 4000
namespace Go.Proofs.YtcdnjeiamihhbabGreat
open Go.RowKit
section
/-- What records say, as far as no number is missing. -/
def folS (X : Fo → List It) : Int → List Pl → List Fo → List Pl
 | q, P, [] => P
 | q, P, f :: l => if f.s = q then folS X q P l else if f.s = IntKind.u64.wrap (q + 1) then folS X (IntKind.u64.wrap (q + 1)) (entS f.z P f.b (X f)) l else P
theorem folS_same {X : Fo → List It} {q : Int} {P : List Pl} {f : Fo} {l : List Fo} (h : f.s = q) : folS X q P (f :: l) = folS X q P l := by
 show (if _ then _ else _) = _
 rw [if_pos h]
theorem folS_next {X : Fo → List It} {q : Int} {P : List Pl} {f : Fo} {l : List Fo} (h : f.s ≠ q) (h2 : f.s = IntKind.u64.wrap (q + 1)) : folS X q P (f :: l) = folS X (IntKind.u64.wrap (q + 1)) (entS f.z P f.b (X f)) l := by
 show (if _ then _ else _) = _
 rw [if_neg h, if_pos h2]
theorem folS_stop {X : Fo → List It} {q : Int} {P : List Pl} {f : Fo} {l : List Fo} (h : f.s ≠ q) (h2 : f.s ≠ IntKind.u64.wrap (q + 1)) : folS X q P (f :: l) = P := by
 show (if _ then _ else _) = _
 rw [if_neg h, if_neg h2]
/-- A list of records that were found, in the world. -/
def FoIn (w : World) (A : Option Addr) (n : Nat) (l : List Fo) : Prop := l.length = n ∧ n ≤ maxLen ∧ (n = 0 ∨ ∃ g off, A = some ⟨g, off, none⟩ ∧ ∀ (i : Nat) (f : Fo), l[i]? = some f → ∀ (j : Nat) (v : Value), (foL f)[j]? = some v → w.cell? ⟨g, off + i * 4 + j, none⟩ = some v)
theorem FoIn.outO {O : Nat → Prop} {w w' : World} {A : Option Addr} {n : Nat} {l : List Fo} (h : FoIn w A n l) (ho : Out O w w') (hn : n ≠ 0 → ∀ y, A.map (·.block) = some y → ¬ O y) : FoIn w' A n l := by
 obtain ⟨h1, h2, h3⟩ := h
 refine ⟨h1, h2, ?_⟩
 by_cases h0 : n = 0
 ·exact .inl h0
 ·obtain ⟨g, off, rfl, hc⟩ := h3.resolve_left h0
  exact .inr ⟨g, off, rfl, fun i f hf j v hv => ho.cell (hc i f hf j v hv) (hn h0 g rfl)⟩
/-- What is known of a record that was found. -/
structure FoOk (W : World) (b1 b2 : Nat) (X : Fo → List It) (f : Fo) : Prop where
 z : ∃ z : Nat, f.z = z ∧ z ≤ 10000
 b : ∃ b : Nat, f.b = b ∧ b ≤ 10000
 m : f.m ≤ 220
 it : ItsIn W f.a f.m (X f)
 ne : f.m ≠ 0 → ∀ y, f.a.map (·.block) = some y → y ≠ b1 ∧ y ≠ b2
section
variable {W : World}
set_option maxHeartbeats 4000000 in
theorem ofollow_of (q0 : Int) (A : Option Addr) (n C : Nat) (l : List Fo) (X : Fo → List It) (m b1 b2 : Nat) (P : List Pl) (c : Nat) (hl : FoIn W A n l) (hlb : n ≠ 0 → ∀ y, A.map (·.block) = some y → y ≠ b1 ∧ y ≠ b2) (hf : ∀ f ∈ l, FoOk W b1 b2 X f) (hm : LmP W m b1 b2 P c) (hc : c + 220 * n ≤ 90000) :
  Calls Tryz.prog 50 #[.pointer (some ⟨m, 0, none⟩), .int .u64 q0, .slice A n C] W fun e w' => e = .returned (.tuple #[]) ∧ LmP w' m b1 b2 (folS X q0 P l) (c + 220 * n) ∧ Out (Two b1 b2) W w' := by
 have H : Hid (FoIn W A n l ∧ (n ≠ 0 → ∀ y, A.map (·.block) = some y → y ≠ b1 ∧ y ≠ b2) ∧ (∀ f ∈ l, FoOk W b1 b2 X f) ∧ l.length = n ∧ c + 220 * n ≤ 90000) := ⟨hl, hlb, hf, hl.1, hc⟩
 have HV : Hid (LmP W m b1 b2 P c) := hm
 clear hl hlb hf hm hc
 go_enter Tryz.func50, Tryz.ntmps50
 go_wp2_with fail
 go_loopw [1, 10] (fun v x wr => ∃ (k c' : Nat) (q' : Int) (P' : List Pl), x = .int .i64 k ∧ v = .int .u64 q' ∧ k ≤ n ∧ c' ≤ c + 220 * k ∧ folS X q0 P l = folS X q' P' (l.drop k) ∧ LmP wr m b1 b2 P' c' ∧ Out (Two b1 b2) W wr) (fun _ x _ => n - (intOf x).toNat)
 case atStart => exact ⟨0, c, q0, P, rfl, rfl, Nat.zero_le _, Nat.le_refl _, rfl, HV.out, Out.refl _ _⟩
 case round =>
  obtain ⟨k, c', q', P', rfl, rfl, hk, hc', he, hm, ho⟩ := hrel
  obtain ⟨-, -, -, hln, hcn⟩ := H.out
  rcases Nat.lt_or_ge k n with hlt | hge
  ·have hk' : (k : Int) < n := by omega
   have hwk : IntKind.i64.wrap ((k : Int) + 1) = (k : Int) + 1 := by rw [IntKind.wrap_i64]; omega
   obtain ⟨q1, hq1⟩ : ∃ q1, IntKind.u64.wrap (q' + 1) = q1 := ⟨_, rfl⟩
   obtain ⟨f, hfk⟩ : ∃ f, l[k]? = some f := ⟨l[k]'(by omega), by simp⟩
   have hTwo : ∀ y, (y ≠ b1 ∧ y ≠ b2) → ¬ Two b1 b2 y := fun y hy hT => by
    rcases hT with h | h
    ·exact hy.1 h
    ·exact hy.2 h
   have hfo := H.out.1.outO ho (fun h0 y hy => hTwo y (H.out.2.1 h0 y hy))
   obtain ⟨g, off, hA, hcl⟩ := hfo.2.2.resolve_left (by omega)
   subst hA
   have hok := H.out.2.2.1 f (List.mem_of_getElem? hfk)
   have hit := hok.it.outO ho (fun h0 y hy => hTwo y (hok.ne h0 y hy))
   have hdr : l.drop k = f :: l.drop (k + 1) := by
    obtain ⟨h, e⟩ := List.getElem?_eq_some_iff.1 hfk
    rw [List.drop_eq_getElem_cons h, e]
   obtain ⟨fs, fa, fm, fc, fz, fb⟩ := f
   obtain ⟨z, hz, hz5⟩ := hok.z
   obtain ⟨b, hb, hb5⟩ := hok.b
   simp only at hz hb
   subst hz
   subst hb
   have y0 : wr.cell? ⟨g, off + k * 4 + 0, none⟩ = some (.int .u64 fs) := hcl k _ hfk 0 _ rfl
   have y1 : wr.cell? ⟨g, off + k * 4 + 1, none⟩ = some (.slice fa fm fc) := hcl k _ hfk 1 _ rfl
   have y2 : wr.cell? ⟨g, off + k * 4 + 2, none⟩ = some (.int .i64 (z : Nat)) := hcl k _ hfk 2 _ rfl
   have y3 : wr.cell? ⟨g, off + k * 4 + 3, none⟩ = some (.int .i64 (b : Nat)) := hcl k _ hfk 3 _ rfl
   simp only [Nat.add_zero] at y0
   have HK : Hid (folS X q0 P l = folS X q' P' (⟨fs, fa, fm, fc, z, b⟩ :: l.drop (k + 1)) ∧ LmP wr m b1 b2 P' c' ∧ Out (Two b1 b2) W wr ∧ ItsIn wr fa fm (X ⟨fs, fa, fm, fc, z, b⟩) ∧ (fm ≠ 0 → ∀ y, fa.map (·.block) = some y → y ≠ b1 ∧ y ≠ b2) ∧ fm ≤ 220 ∧ z ≤ 10000 ∧ b ≤ 10000 ∧ IntKind.u64.wrap (q' + 1) = q1) := ⟨by rw [he, hdr], hm, ho, hit, hok.ne, hok.m, hz5, hb5, hq1⟩
   have HE : Hid (∀ o, Calls Tryz.prog 95 #[.agg #[.int .u64 fs, .slice fa fm fc, .int .i64 (z : Nat), .int .i64 (b : Nat)], .pointer (some ⟨m, 0, none⟩)] (wr.alloc o) fun e w' => e = .returned (.tuple #[]) ∧ LmP w' m b1 b2 (entS z P' b (X ⟨fs, fa, fm, fc, z, b⟩)) (c' + 220) ∧ Out (Two b1 b2) W w') := fun o => by
    refine (oenter_of fs z b fa fm fc _ m b1 b2 P' c' (HK.out.2.2.2.1.below (below_a1 wr o)) HK.out.2.2.2.2.1 (HK.out.2.1.alloc o) HK.out.2.2.2.2.2.2.1 HK.out.2.2.2.2.2.2.2.1 (by have := HK.out.2.2.2.2.2.1; omega) (by have := HK.out.2.2.2.2.2.1; omega)).mono ?_
    rintro e w' ⟨rfl, h1, h2⟩
    exact ⟨rfl, h1.mono (by have := HK.out.2.2.2.2.2.1; omega), (HK.out.2.2.1.alloc o).trans h2 (fun j hj => .inl hj)⟩
   clear he hm ho hfo hcl hok hit hdr hfk hTwo hz5 hb5
   by_cases h1 : fs = q'
   ·have h1' : (fs == q') = true := by simp [h1]
    have HZ : Hid (fs = q') := h1
    clear h1
    go_wp2
    have HR : Hid (folS X q0 P l = folS X q' P' (l.drop (k + 1))) := by show _ = _; rw [HK.out.1]; exact folS_same HZ.out
    first
     | exact ⟨⟨k + 1, c', q', P', by simp, rfl, by omega, by omega, HR.out, HK.out.2.1.alloc _, HK.out.2.2.1.alloc _⟩, by simp [intOf]; omega⟩
     | (go_roundw
        case rel => exact ⟨k + 1, c', q', P', by simp, rfl, by omega, by omega, HR.out, HK.out.2.1.alloc _, HK.out.2.2.1.alloc _⟩
        case measure => simp [intOf]; omega)
   ·have h1' : (fs == q') = false := by simp [h1]
    by_cases h2 : fs = q1
    ·have h2' : (fs == q1) = true := by simp [h2]
     have HZ : Hid (fs ≠ q' ∧ fs = q1) := ⟨h1, h2⟩
     clear h1 h2
     go_wp2_with (go_at_call 95; refine (HE.out _).mono ?_; rintro e w1 ⟨rfl, hm1, ho1⟩)
     have HR : Hid (folS X q0 P l = folS X q1 (entS z P' b (X ⟨fs, fa, fm, fc, z, b⟩)) (l.drop (k + 1)) ∧ LmP w1 m b1 b2 (entS z P' b (X ⟨fs, fa, fm, fc, z, b⟩)) (c' + 220) ∧ Out (Two b1 b2) W w1) := by
      refine ⟨?_, hm1, ho1⟩
      rw [HK.out.1, folS_next HZ.out.1 (by rw [HK.out.2.2.2.2.2.2.2.2]; exact HZ.out.2), HK.out.2.2.2.2.2.2.2.2]
     clear hm1 ho1
     first
      | exact ⟨⟨k + 1, c' + 220, q1, _, by simp, rfl, by omega, by omega, HR.out.1, HR.out.2⟩, by simp [intOf]; omega⟩
      | (go_roundw
         case rel => exact ⟨k + 1, c' + 220, q1, _, by simp, rfl, by omega, by omega, HR.out.1, HR.out.2⟩
         case measure => simp [intOf]; omega)
    ·have h2' : (fs == q1) = false := by simp [h2]
     have HR : Hid (folS X q0 P l = P') := by
      show _ = _
      rw [HK.out.1]
      exact folS_stop h1 (by rw [HK.out.2.2.2.2.2.2.2.2]; exact h2)
     clear h1 h2
     go_wp2
     first | go_end0 | refine bodyPost_ret (results_none rfl _ _ _) rfl ?_
     rw [HR.out]
     exact ⟨rfl, (HK.out.2.1.alloc _).mono (by omega), HK.out.2.2.1.alloc _⟩
  ·obtain rfl : k = n := by omega
   have HF : Hid (LmP wr m b1 b2 (folS X q0 P l) (c + 220 * k) ∧ Out (Two b1 b2) W wr) := ⟨by rw [he, List.drop_eq_nil_of_le (by omega)]; exact hm.mono (by omega), ho⟩
   clear he hm ho
   go_wp2
   first | go_end0 | refine bodyPost_ret (results_none rfl _ _ _) rfl ?_
   exact ⟨rfl, HF.out⟩
end
end
section
/-- The last number of records, or one. -/
def greatL (q : Int) (l : List Fo) : Int := match l.getLast? with
 | some f => f.s
 | none => q
section
variable {W : World}
set_option maxHeartbeats 2000000 in
theorem ogreat_of (q : Int) (A : Option Addr) (n C : Nat) (l : List Fo) (hl : FoIn W A n l) :
  Calls Tryz.prog 51 #[.int .u64 q, .slice A n C] W fun e w' => e = .returned (.int .u64 (greatL q l)) ∧ w' = W := by
 obtain ⟨h1, h2, h3⟩ := hl
 by_cases h0 : n = 0
 ·have hq : greatL q l = q := by
   have : l = [] := List.length_eq_zero_iff.1 (by omega)
   rw [this]
   rfl
  rw [hq]
  have hn : (n : Int) = 0 := by omega
  subst h0
  clear h1 h2 h3
  go_enter Tryz.func51, Tryz.ntmps51
  go_wp2
  go_ret
  exact ⟨rfl, rfl⟩
 ·obtain ⟨g, off, rfl, hc⟩ := h3.resolve_left h0
  obtain ⟨k, rfl⟩ : ∃ k, n = k + 1 := ⟨n - 1, by omega⟩
  obtain ⟨f, hf⟩ : ∃ f, l[k]? = some f := ⟨l[k]'(by omega), by simp⟩
  have hq : greatL q l = f.s := by
   unfold greatL
   rw [List.getLast?_eq_getElem?, h1]
   show (match l[k]? with | some f => f.s | none => q) = _
   rw [hf]
  rw [hq]
  have y0 : W.cell? ⟨g, off + k * 4 + 0, none⟩ = some (.int .u64 f.s) := hc k _ hf 0 _ rfl
  simp only [Nat.add_zero] at y0
  have hwk : wrap64 (k : Int) = (k : Int) := by have h := IntKind.wrap_i64 (k : Int); unfold IntKind.wrap at h; unfold maxLen at h2; first | omega | (simp at h; omega) | (unfold wrap64; omega)
  have hk1 : ((k : Int) + 1 == 0) = false := by simp; omega
  have hk2 : (k : Int) < (k : Int) + 1 := by omega
  clear hc h3 hf h1
  go_enter Tryz.func51, Tryz.ntmps51
  go_wp2
  go_ret
  exact ⟨rfl, rfl⟩
end
end
end Go.Proofs.YtcdnjeiamihhbabGreat
namespace Go.Proofs.YtcdnjeiamihhbabGreat
open Go.RowKit Go.Sort Go.Lib Go.Shelf
section
def foC (l : List Fo) : List Value := l.flatMap foL
theorem foC_snoc (l : List Fo) (f : Fo) : foC (l ++ [f]) = foC l ++ foL f := by simp [foC]
theorem foC_length (l : List Fo) : (foC l).length = l.length * 4 := by
 unfold foC
 induction l with
 | nil => rfl
 | cons x r ih => rw [List.flatMap_cons, List.length_append, ih, List.length_cons]; simp [foL]; omega
theorem foC_at : ∀ (l : List Fo) (i : Nat) (f : Fo) (j : Nat), l[i]? = some f → j < 4 → (foC l)[i * 4 + j]? = (foL f)[j]?
 | [], i, x, j, h, _ => by simp at h
 | y :: r, 0, x, j, h, hj => by
  have : y = x := by simpa using h
  subst this
  rw [foC, List.flatMap_cons, Nat.zero_mul, Nat.zero_add, List.getElem?_append_left (by simp [foL]; omega)]
 | y :: r, i + 1, x, j, h, hj => by
  have h' : r[i]? = some x := by simpa using h
  rw [foC, List.flatMap_cons, List.getElem?_append_right (by simp [foL]; omega)]
  have : (i + 1) * 4 + j - (foL y).length = i * 4 + j := by simp [foL]; omega
  rw [this]
  exact foC_at r i x j h' hj
theorem foL_one (f : Fo) : ∀ v ∈ foL f, v.oneCell' = true := by
 intro v hv; simp only [foL, List.mem_cons, List.not_mem_nil, or_false] at hv; rcases hv with rfl | rfl | rfl | rfl <;> rfl
/-- What counts of a record that was found. -/
def foK (f : Fo) : Int × Int × Int := (f.s, f.z, f.b)
/-- The items of a record that was found. -/
def foX (zs : List Zn) (f : Fo) : List It := decX (elB zs f.z f.b.toNat)
/-- Of records of a zone those above a number. -/
def newrZ (zs : List Zn) (q : Int) (z : Nat) (l : List Nat) : List (Int × Int × Int) := (l.filter (fun i => decide (q < decS (elB zs (z : Nat) i)))).map (fun i => (decS (elB zs (z : Nat) i), ((z : Nat) : Int), ((i : Nat) : Int)))
theorem newrZ_snoc (zs : List Zn) (q : Int) (z : Nat) (l : List Nat) (i : Nat) : newrZ zs q z (l ++ [i]) = if q < decS (elB zs (z : Nat) i) then newrZ zs q z l ++ [(decS (elB zs (z : Nat) i), ((z : Nat) : Int), ((i : Nat) : Int))] else newrZ zs q z l := by
 unfold newrZ
 rw [List.filter_append, List.map_append]
 by_cases h : q < decS (elB zs (z : Nat) i)
 ·rw [if_pos h]; simp [h]
 ·rw [if_neg h]; simp [h]
/-- The log's records above a number, zone by zone, of the zones below one. -/
def newTo (zs : List Zn) (q : Int) : Nat → List (Int × Int × Int)
 | 0 => []
 | k + 1 => if 2 ≤ k then newTo zs q k ++ newrZ zs q k (scanL zs (k : Nat)) else newTo zs q k
theorem newTo_two (zs : List Zn) (q : Int) : newTo zs q 2 = [] := by
 unfold newTo newTo newTo
 rw [if_neg (by omega), if_neg (by omega)]
theorem newTo_step {zs : List Zn} {q : Int} {k : Nat} (h : 2 ≤ k) : newTo zs q (k + 1) = newTo zs q k ++ newrZ zs q k (scanL zs (k : Nat)) := by
 show (if _ then _ else _) = _
 rw [if_pos h]
theorem Tryz.zero_found : (Tryz.prog.info? 94).map (fun i => (i.zero, i.size, i.bytes)) = some (some (.agg #[.int .u64 0, .slice none 0 0, .int .i64 0, .int .i64 0]), 4, 48) := by kernel_rfl
/-- The row of what was found. -/
structure NwR (zs : List Zn) (q : Nat) (V w : World) (A : Option Addr) (n C : Nat) (l : List Fo) : Prop where
 ln : l.length = n
 row : w.ownsRow 0 94 4 (.slice A n C) n (foC l)
 its : ∀ f ∈ l, ItsIn w f.a f.m (foX zs f) ∧ (f.m ≠ 0 → ∀ y, f.a.map (·.block) = some y → q ≤ y ∧ ¬ (Value.slice A n C).ownBlock = some y)
 hA : ∀ g, (Value.slice A n C).ownBlock = some g → q ≤ g
 bel : Below q V w
section
variable {zs : List Zn} {q : Nat} {V w X : World} {A : Option Addr} {n C : Nat} {l : List Fo}
theorem NwR.start (V : World) (q : Nat) (hb : Below q V w) : NwR zs q V w none 0 0 [] := ⟨rfl, World.ownsRow_nil _ _ _ _, by simp, (fun g h => by cases h), hb⟩
theorem NwR.ltA (h : NwR zs q V w A n C l) : ∀ g, (Value.slice A n C).ownBlock = some g → g < w.heap.size := fun g hg => (h.row.lt g hg).2
theorem NwR.below (h : NwR zs q V w A n C l) (hq : q ≤ w.heap.size) (hb : Below w.heap.size w X) : NwR zs q V X A n C l :=
 ⟨h.ln, (below_out Non hb).own h.row (fun _ _ e => e), fun f hf => ⟨(h.its f hf).1.below hb, (h.its f hf).2⟩, h.hA, h.bel.trans (hb.mono hq)⟩
/-- One more that was found. -/
theorem NwR.one {a : Option Addr} {m c g1 : Nat} {S z b : Int} (h : NwR zs q V w A n C l) (hq : q ≤ w.heap.size) (hi : ItsIn w a m (foX zs ⟨S, a, m, c, z, b⟩)) (hf : m ≠ 0 → ∀ y, a.map (·.block) = some y → q ≤ y ∧ ¬ (Value.slice A n C).ownBlock = some y) (hn : n + 1 ≤ 1000000)
  (hc : ∀ (j : Nat) (u : Value), (foL ⟨S, a, m, c, z, b⟩)[j]? = some u → w.cell? ⟨g1, j, none⟩ = some u) :
  ∃ a9 c9 w9, (Builtin.append_ #[119, 119] 119 #[.slice A n C, .slice (some ⟨g1, 0, none⟩) 1 1]).run Tryz.prog w = .ok (.slice a9 (n + 1) c9) w9 ∧ Out (fun j => (Value.slice A n C).ownBlock = some j) w w9 ∧ NwR zs q V w9 a9 (n + 1) c9 (l ++ [⟨S, a, m, c, z, b⟩]) ∧ (∀ g, (Value.slice a9 (n + 1) c9).ownBlock = some g → (Value.slice A n C).ownBlock = some g ∨ w.heap.size ≤ g) := by
 obtain ⟨h1, r1, h2, h3, h4⟩ := h
 obtain ⟨v9, w9, e9, o9, g9, b9⟩ := run_app (e := 94) (t := 119) (ty := 119) (size := 4) (bytes := 48) Tryz.underlying119 Tryz.zero_found rfl (by decide) (by decide) r1 ⟨g1, 0, none⟩ 1 1 (foL ⟨S, a, m, c, z, b⟩) rfl (by
  intro j u hj
  rw [Addr.add_mid, Nat.zero_add]
  exact hc j u hj) (foL_one _) (by omega)
 obtain ⟨a9, c9, rfl⟩ : ∃ a' c', v9 = .slice a' (n + 1) c' := own_slice o9
 have ho9 : Out (fun j => (Value.slice A n C).ownBlock = some j) w w9 := (Out.refl (fun j => (Value.slice A n C).ownBlock = some j) w).grown g9 (fun j hj => .inl hj)
 have bA : ∀ g, (Value.slice a9 (n + 1) c9).ownBlock = some g → (Value.slice A n C).ownBlock = some g ∨ w.heap.size ≤ g := fun g hg => by
  rcases b9 with e | e
  ·exact .inl (by rw [← e]; exact hg)
  ·exact .inr (e g hg)
 refine ⟨a9, c9, w9, e9, ho9, ⟨by rw [List.length_append, h1]; rfl, by rw [foC_snoc]; exact o9, ?_, ?_, h4.trans (ho9.below hq (fun j hj => h3 j hj))⟩, bA⟩
 ·intro f hf'
  rcases List.mem_append.1 hf' with hf' | hf'
  ·obtain ⟨k1, k2⟩ := h2 f hf'
   refine ⟨k1.outO ho9 (fun hm y hy e => (k2 hm y hy).2 e), fun hm y hy => ⟨(k2 hm y hy).1, fun e => ?_⟩⟩
   rcases bA y e with e | e
   ·exact (k2 hm y hy).2 e
   ·have := its_lt k1 hm hy; omega
  ·rw [List.mem_singleton] at hf'
   subst hf'
   refine ⟨hi.outO ho9 (fun hm y hy e => (hf hm y hy).2 e), fun hm y hy => ⟨(hf hm y hy).1, fun e => ?_⟩⟩
   rcases bA y e with e | e
   ·exact (hf hm y hy).2 e
   ·have := its_lt hi hm hy; omega
 ·intro g hg
  rcases bA g hg with e | e
  ·exact h3 g e
  ·omega
end
end
section
theorem rcC_at : ∀ (l : List (List Int)) (vs : List Value) (i : Nat) (E : List Int) (v : Value), l[i]? = some E → vs[i]? = some v → (rcC l vs)[i * 2]? = some (.int .u64 (decS E)) ∧ (rcC l vs)[i * 2 + 1]? = some v
 | [], _, i, E, v, h, _ => by simp at h
 | _ :: _, [], i, E, v, _, k => by simp at k
 | D :: l, u :: vs, 0, E, v, h, k => by
  simp only [List.getElem?_cons_zero, Option.some.injEq] at h k
  subst h
  subst k
  exact ⟨rfl, rfl⟩
 | D :: l, u :: vs, i + 1, E, v, h, k => by
  simp only [List.getElem?_cons_succ] at h k
  have := rcC_at l vs i E v h k
  rw [show (i + 1) * 2 = i * 2 + 1 + 1 by omega, show i * 2 + 1 + 1 + 1 = (i * 2 + 1) + 1 + 1 by omega]
  exact this
theorem own_each {w : World} {base s n C : Nat} {A : Option Addr} {e : TypeId} {xs : List Value} (h : w.ownsRow base e s (.slice A n C) n xs) (h0 : 0 < n) : ∃ g, A = some ⟨g, 0, none⟩ ∧ ∀ (j : Nat) (u : Value), xs[j]? = some u → w.cell? ⟨g, j, none⟩ = some u := by
 rcases h.2 with ⟨hv, hn⟩ | ⟨g, cap, cur, hv, hb, hg, hc, hcm, hsz, htake⟩
 ·omega
 ·cases hv
  refine ⟨g, rfl, fun j u hj => ?_⟩
  have hcl := h.cells (g := g) rfl j u hj
  rw [Addr.add_mid, Nat.zero_add] at hcl
  exact hcl
/-- A zone's records, and what was found. -/
structure NwI (zs : List Zn) (q : Nat) (V w : World) (A : Option Addr) (n C : Nat) (l : List Fo) (Ar : Option Addr) (Cr : Nat) (B : Option Addr) (cB nr : Nat) (L : List Nat) (z : Nat) : Prop where
 nw : NwR zs q V w A n C l
 hq : q ≤ w.heap.size
 ln : L.length = nr
 rows : ∃ vs Y, w.ownsRow 0 47 2 (.slice Ar nr Cr) nr (rcC (L.map (elB zs (z : Nat))) vs) ∧ RcD Y w (L.map (elB zs (z : Nat))) vs ∧ (∀ x, Y x → q ≤ x ∧ x < w.heap.size) ∧ (∀ g, (Value.slice A n C).ownBlock = some g → ¬ Y g)
 ints : w.ownsRow 0 3 1 (.slice B nr cB) nr (kInts .i64 (L.map (fun i => ((i : Nat) : Int))))
section
variable {zs : List Zn} {q : Nat} {V w w1 X : World} {A Ar B : Option Addr} {n C Cr cB nr : Nat} {l : List Fo} {L : List Nat} {z : Nat}
theorem NwI.start (nw : NwR zs q V w1 A n C l) (hq : q ≤ w1.heap.size) (sc : ScR w1.heap.size w1 w Ar nr Cr B nr cB (L.map (elB zs (z : Nat))) (L.map (fun i => ((i : Nat) : Int)))) : NwI zs q V w A n C l Ar Cr B cB nr L z := by
 have hlt := nw.ltA
 have hs := sc.bel.size
 obtain ⟨vs, Y, r1, r2, r3, r4, r5⟩ := sc.rows
 refine ⟨nw.below hq sc.bel, by omega, by have := sc.ln; simpa using this, ⟨vs, Y, r1, r2, fun x hx => ⟨by have := r3 x hx; omega, (r3 x hx).2⟩, fun g hg e => ?_⟩, sc.ints⟩
 have h1 := hlt g hg
 have h2 := r3 g e
 omega
theorem NwI.below (h : NwI zs q V w A n C l Ar Cr B cB nr L z) (hb : Below w.heap.size w X) : NwI zs q V X A n C l Ar Cr B cB nr L z := by
 have hs := hb.size
 have ho := below_out Non hb
 obtain ⟨h1, hq, h2, ⟨vs, Y, r1, r2, r3, r4⟩, h3⟩ := h
 exact ⟨h1.below hq hb, by omega, h2, ⟨vs, Y, ho.own r1 (fun _ _ e => e), r2.out ho (fun _ _ e => e), fun x hx => ⟨(r3 x hx).1, by have := (r3 x hx).2; omega⟩, r4⟩, ho.own h3 (fun _ _ e => e)⟩
/-- One of the records. -/
theorem NwI.at (h : NwI zs q V w A n C l Ar Cr B cB nr L z) {i : Nat} (hi : i < nr) : ∃ b a m c g g2, L[i]? = some b ∧ Ar = some ⟨g, 0, none⟩ ∧ B = some ⟨g2, 0, none⟩ ∧ w.cell? ⟨g, i * 2, none⟩ = some (.int .u64 (decS (elB zs (z : Nat) b))) ∧ w.cell? ⟨g, i * 2 + 1, none⟩ = some (.slice a m c) ∧ w.cell? ⟨g2, i, none⟩ = some (.int .i64 (b : Nat)) ∧ ItsIn w a m (decX (elB zs (z : Nat) b)) ∧ (m ≠ 0 → ∀ y, a.map (·.block) = some y → q ≤ y ∧ y < w.heap.size ∧ ¬ (Value.slice A n C).ownBlock = some y) := by
 obtain ⟨h1, hq, h2, ⟨vs, Y, r1, r2, r3, r4⟩, h3⟩ := h
 obtain ⟨b, hb⟩ : ∃ b, L[i]? = some b := ⟨L[i]'(by omega), by simp⟩
 have hE : (L.map (elB zs (z : Nat)))[i]? = some (elB zs (z : Nat) b) := by rw [List.getElem?_map, hb]; rfl
 obtain ⟨v, hv⟩ : ∃ v, vs[i]? = some v := ⟨vs[i]'(by rw [r2.1, List.length_map]; omega), by simp⟩
 obtain ⟨a, m, c, rfl, k1, k2⟩ := r2.2 i _ v hE hv
 obtain ⟨g, hg, hgc⟩ := own_each r1 (by omega)
 obtain ⟨g2, hg2, hgc2⟩ := own_each h3 (by omega)
 have hr := rcC_at _ vs i _ _ hE hv
 refine ⟨b, a, m, c, g, g2, hb, hg, hg2, hgc _ _ hr.1, hgc _ _ hr.2, hgc2 i _ ?_, k1, fun hm y hy => ?_⟩
 ·simp [kInts, hb]
 ·have hY := k2 hm y hy
  exact ⟨(r3 y hY).1, (r3 y hY).2, fun e => r4 y e hY⟩
/-- One more found. -/
theorem NwI.one {a : Option Addr} {m c g1 : Nat} {S : Int} {b : Nat} (h : NwI zs q V w A n C l Ar Cr B cB nr L z) (hi : ItsIn w a m (decX (elB zs (z : Nat) b))) (hf : m ≠ 0 → ∀ y, a.map (·.block) = some y → q ≤ y ∧ ¬ (Value.slice A n C).ownBlock = some y) (hn : n + 1 ≤ 1000000)
  (hc : ∀ (j : Nat) (u : Value), (foL ⟨S, a, m, c, (z : Nat), (b : Nat)⟩)[j]? = some u → w.cell? ⟨g1, j, none⟩ = some u) :
  ∃ a9 c9 w9, (Builtin.append_ #[119, 119] 119 #[.slice A n C, .slice (some ⟨g1, 0, none⟩) 1 1]).run Tryz.prog w = .ok (.slice a9 (n + 1) c9) w9 ∧ NwI zs q V w9 a9 (n + 1) c9 (l ++ [⟨S, a, m, c, (z : Nat), (b : Nat)⟩]) Ar Cr B cB nr L z ∧ (∀ g L' t, Blk w g L' t → t ≠ 94 → Blk w9 g L' t) := by
 obtain ⟨h1, hq, h2, ⟨vs, Y, r1, r2, r3, r4⟩, h3⟩ := h
 obtain ⟨a9, c9, w9, e9, ho, nw9, bA⟩ := h1.one hq (by simpa [foX] using hi) hf hn hc
 have hs := ho.size
 have ap1 : ∀ g, (Value.slice Ar nr Cr).ownBlock = some g → ¬ (Value.slice A n C).ownBlock = some g := fun g hg e => by
  rcases rows_apart r1 h1.row (by decide) with h | h
  ·rw [h] at hg; cases hg
  ·exact h (hg.trans e.symm)
 have ap2 : ∀ g, (Value.slice B nr cB).ownBlock = some g → ¬ (Value.slice A n C).ownBlock = some g := fun g hg e => by
  rcases rows_apart h3 h1.row (by decide) with h | h
  ·rw [h] at hg; cases hg
  ·exact h (hg.trans e.symm)
 refine ⟨a9, c9, w9, e9, ⟨nw9, by omega, h2, ⟨vs, Y, ho.own r1 ap1, r2.out ho (fun y hy e => r4 y e hy), fun x hx => ⟨(r3 x hx).1, by have := (r3 x hx).2; omega⟩, fun g hg e => ?_⟩, ho.own h3 ap2⟩, fun g L' t hg ht => ho.blk hg (own_not h1.row hg ht)⟩
 rcases bA g hg with e' | e'
 ·exact r4 g e' e
 ·have := (r3 g e).2; omega
theorem step_found {w0 : World} {ops : Array Oper} {o : Oper} {a0 : Act} {K : Act → World → Prop} {Q : Exit → Act → World → Prop} {F : Prop} {a : Option Addr} {m c g1 : Nat} {S : Int} {b : Nat} (hg : o.guard = none) (s x : Operand)
  (hop : o.op = .call { callee := .builtin .append, args := #[s, x], argTypes := #[119, 119] }) (ht : o.type = 119) (hs : a0.eval s = .slice A n C) (hx : a0.eval x = .slice (some ⟨g1, 0, none⟩) 1 1) (h : NwI zs q V w0 A n C l Ar Cr B cB nr L z) (hb : Below w0.heap.size w0 w) (hi : ItsIn w0 a m (decX (elB zs (z : Nat) b))) (hf : m ≠ 0 → ∀ y, a.map (·.block) = some y → q ≤ y ∧ ¬ (Value.slice A n C).ownBlock = some y) (hn : n + 1 ≤ 1000000)
  (hc : ∀ (j : Nat) (u : Value), (foL ⟨S, a, m, c, (z : Nat), (b : Nat)⟩)[j]? = some u → w.cell? ⟨g1, j, none⟩ = some u)
  (hK : ∀ a9 c9 w9, NwI zs q V w9 a9 (n + 1) c9 (l ++ [⟨S, a, m, c, (z : Nat), (b : Nat)⟩]) Ar Cr B cB nr L z → K (a0.put o.dst (.slice a9 (n + 1) c9)) w9) :
  if Region.wanted o (yielded ops a0.tmps) = true then Oper.wp Tryz.prog o a0 w K Q else F := by
 obtain ⟨a9, c9, w9, e9, n9, _⟩ := (h.below hb).one (hi.below hb) hf hn hc
 exact step_append_run hg s x 119 119 hop _ _ hs hx _ _ (by rw [ht]; exact e9) (hK a9 c9 w9 n9)
end
theorem newTo_le (zs : List Zn) (q : Int) : ∀ {k k' : Nat}, k ≤ k' → (newTo zs q k).length ≤ (newTo zs q k').length := by
 intro k k' h
 induction k' with
 | zero =>
  obtain rfl : k = 0 := by omega
  exact Nat.le_refl _
 | succ j ih =>
  rcases Nat.lt_or_ge k (j + 1) with h' | h'
  ·have := ih (by omega)
   by_cases h2 : 2 ≤ j
   ·rw [newTo_step h2, List.length_append]
    omega
   ·have : newTo zs q (j + 1) = newTo zs q j := by
     show (if _ then _ else _) = _
     rw [if_neg h2]
    rw [this]
    omega
  ·obtain rfl : k = j + 1 := by omega
   exact Nat.le_refl _
theorem newrZ_take (zs : List Zn) (q : Int) (z : Nat) (l : List Nat) (i : Nat) : (newrZ zs q z (l.take i)).length ≤ (newrZ zs q z l).length := by
 unfold newrZ
 rw [List.length_map, List.length_map]
 exact ((List.take_sublist i l).filter _).length_le
end
end Go.Proofs.YtcdnjeiamihhbabGreat
