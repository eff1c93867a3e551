/- P43 -/
import Derived.Test.YtcdnjeiamihhbabGreatP42
import Derived.Test.YtcdnjeiamihhbabGreatP34
set_option linter.unusedVariables false
set_option maxRecDepth 4000
namespace Go.Proofs.YtcdnjeiamihhbabGreat
open Go.RowKit
section
def shC (s : Sh) : List Value := [.int .i64 s.z, .int .i64 s.zb, .int .i64 s.b, .int .i64 s.r]
/-- A store beside a list of blocks to be put, and the shape, in the law's memory. -/
structure Rd (w W : World) (s : Sh) (D : Nat → Prop) (k : Bs) (st : St) (c : Nat) (A : Option Addr) (n C : Nat) (l : List Pt) : Prop where
 st : StV D W k st c
 bel : Below w.heap.size w W
 sh : Blk W w.heap.size (shC s) 23
 low : ∀ x, StO D k x → w.heap.size < x
 pts : ∃ X : Nat → Prop, PtsIn X W A n l ∧ ∀ x, X x → ¬ StO D k x ∧ x < W.heap.size
 cap : n ≤ C
section
variable {w W W' : World} {s : Sh} {D : Nat → Prop} {k : Bs} {st st' : St} {c c' : Nat} {A : Option Addr} {n C : Nat} {l : List Pt}
theorem Rd.next (h : Rd w W s D k st c A n C l) (hs : Sv D W k st' c' W') : ∃ D', Rd w W' s D' k st' c' A n C l := by
 obtain ⟨D', hv, hD, ho⟩ := hs
 obtain ⟨X, h1, h2⟩ := h.pts
 have hw := h.sh.lt
 refine ⟨D', hv, h.bel.trans (ho.below h.bel.size (fun j hj => Nat.le_of_lt (h.low j hj))), ho.blk h.sh (fun hj => by have := h.low _ hj; omega), fun x hx => ?_, ⟨X, h1.out ho (fun x hx => (h2 x hx).1), fun x hx => ⟨fun hs => ?_, Nat.lt_of_lt_of_le (h2 x hx).2 ho.size⟩⟩, h.cap⟩
 ·rcases hx with hx | hx
  ·rcases hD x hx with h' | h'
   ·exact h.low x (.inl h')
   ·omega
  ·exact h.low x (.inr hx)
 ·rcases hs with hs | hs
  ·rcases hD x hs with h' | h'
   ·exact (h2 x hx).1 (.inl h')
   ·have := (h2 x hx).2; omega
  ·exact (h2 x hx).1 (.inr hs)
/-- New, then Blocks. -/
theorem rd_blocks {V : World} {S : Nat} {a1 : Option Addr} {n1 c1 : Nat} {x1 : List Pt} (hw : w.heap.size < V.heap.size) (hb : Below w.heap.size w W) (hs : Blk W w.heap.size (shC s) 23) (hv : StV D W k st c) (hO : ∀ x, StO D k x → V.heap.size ≤ x) (hl : PtsIn (fun x => x < w.heap.size) w a1 n1 x1) (hS : S ≤ 10000) :
  Calls Tryz.prog 9 #[.int .i64 (S : Nat), .slice a1 n1 c1] W fun e w' => ∃ A C, e = .returned (.slice A n1 C) ∧ Rd w w' s D k st c A n1 C (x1.map (blkP S)) := by
 have hlt : ∀ x, StO D k x → x < W.heap.size := fun x hx => by rcases hx with hx | hx; exact hv.lt x hx; exact hv.kin x hx
 refine (sblocks_of S a1 n1 c1 x1 (fun x => x < w.heap.size) W (hl.below hb) hS (fun x hx => Nat.lt_of_lt_of_le hx hb.size)).mono ?_
 rintro e w' ⟨A, C, rfl, hr⟩
 refine ⟨A, C, rfl, ⟨hv.under hr.bel, hb.trans (hr.bel.mono hb.size), hs.below hr.bel hs.lt, fun x hx => by have := hO x hx; omega, ⟨_, hr.pts (by rw [List.length_map]; exact hl.1) hl.2.1, fun x hx => ⟨fun hso => ?_, hx.2⟩⟩, hr.cap⟩⟩
 rcases hx.1 with h | h
 ·have := hO x hso; have h' : x < w.heap.size := h; omega
 ·have := hlt x hso; omega
end
section
variable {w W W' : World} {s : Sh} {D : Nat → Prop} {k : Bs} {st st' : St} {c c' : Nat} {A : Option Addr} {n C : Nat} {l : List Pt} {B : Nat}
end
theorem put_bad {st : St} {l : List Pt} (ho : ¬ okP st.s l) : putM st l = (1, st) := by unfold putM; exact if_neg ho
end
section
theorem light_ops {s : Sh} {os : List Od} (h : ¬ HvO s os) : SmallS s ∧ os.length ≤ 40 ∧ ∀ o ∈ os, o.l.length ≤ 30 ∧ ∀ p ∈ o.l, p.d.length ≤ 200 :=
 ⟨Classical.byContradiction fun hs => h (.inl hs), Nat.not_lt.1 fun hl => h (.inr (.inl hl)), fun o ho => ⟨Nat.not_lt.1 fun hl => h (.inr (.inr ⟨o, ho, .inl hl⟩)), fun p hp => Nat.not_lt.1 fun hl => h (.inr (.inr ⟨o, ho, .inr ⟨p, hp, hl⟩⟩))⟩⟩
/-- What Put does to the number of the last record. -/
theorem put_seq {st : St} {l : List Pt} (hi : Inv st) (hf : ∀ p ∈ l, p.Fits) (hq : 0 ≤ st.q ∧ st.q ≤ 100000) (hl : l.length ≤ 1000) :
  ((putM st l).1 = 1 ∧ (putM st l).2 = st) ∨ ∃ r : Nat, (putM st l).2.q = st.q + r ∧ r ≤ l.length ∧ (((putM st l).1 = 0 ∧ (0 < l.length → 0 < r)) ∨ (putM st l).1 = 160) ∧ Inv (putM st l).2 ∧ (putM st l).2.s = st.s := by
 by_cases ho : okP st.s l
 ·have hm : putM st l = putF l.length st l := by unfold putM; exact if_pos ho
  obtain ⟨m, r, h1, h2, h3, h4, h5, h6, h7⟩ := putFmem l.length st l hi ho hf (Nat.le_refl _)
  rw [hm]
  refine .inr ⟨r, ?_, by omega, ?_, h3, h4⟩
  ·rcases h7 with h7 | ⟨h7, h8⟩
   ·rw [h7]; omega
   ·rw [h8, h7]; simp
  ·rcases h6 with ⟨e1, e2, e3⟩ | e1
   ·exact .inl ⟨e1, e3⟩
   ·exact .inr e1
 ·exact .inl (by rw [put_bad ho]; exact ⟨rfl, rfl⟩)
theorem blkP_fits {S : Nat} {p : Pt} (h : p.Fits) : (blkP S p).Fits := by
 unfold blkP
 split
 ·exact h
 ·exact ⟨h.1, h.2.1, blockB_fits h.2.2⟩
theorem map_fits {S : Nat} {l : List Pt} (h : ∀ p ∈ l, p.Fits) : ∀ p ∈ l.map (blkP S), p.Fits := fun p hp => by
 obtain ⟨q, hq, rfl⟩ := List.mem_map.1 hp
 exact blkP_fits (h q hq)
structure Sq (w W : World) (s : Sh) (D : Nat → Prop) (k : Bs) (st : St) (c : Nat) (i : Nat) : Prop where
 sv : StV D W k st c
 bel : Below w.heap.size w W
 sh : Blk W w.heap.size (shC s) 23
 low : ∀ x, StO D k x → w.heap.size < x
 inv : Inv st
 ss : st.s = s
 qb : 0 ≤ st.q ∧ st.q ≤ 30 * i
 cb : c ≤ 30 * i
section
variable {w W W' : World} {s : Sh} {D : Nat → Prop} {k : Bs} {st : St} {c i : Nat}
theorem Sq.below (h : Sq w W s D k st c i) (hb : Below W.heap.size W W') : Sq w W' s D k st c i :=
 ⟨h.sv.under hb, h.bel.trans (hb.mono h.bel.size), h.sh.below hb h.sh.lt, h.low, h.inv, h.ss, h.qb, h.cb⟩
theorem Sq.blocks {A : Option Addr} {N C S : Nat} {l : List Pt} (h : Sq w W s D k st c i) (hl : PtsIn (fun x => x < w.heap.size) w A N l) (hS : S ≤ 10000) :
  Calls Tryz.prog 9 #[.int .i64 (S : Nat), .slice A N C] W fun e w' => ∃ A' C', e = .returned (.slice A' N C') ∧ Rd w w' s D k st c A' N C' (l.map (blkP S)) :=
 rd_blocks (V := w.alloc (.cells #[] 3)) (by simp) h.bel h.sh h.sv (fun x hx => by have := h.low x hx; simp; omega) hl hS
theorem Rd.put2 {A : Option Addr} {n C : Nat} {l : List Pt} (h : Rd w W s D k st c A n C l) (hc : c + n < 100000) : Calls Tryz.prog 8 #[.pointer (some ⟨k.ps, 0, none⟩), .slice A n C] W fun e w' => e = .returned (.int .u16 (putM st l).1) ∧ (∃ D', Rd w w' s D' k (putM st l).2 (c + n) A n C l) ∧ Out (StO D k) W w' := by
 obtain ⟨X, h1, h2⟩ := h.pts
 refine (sput_of h.st A n C l X h1 h.cap h2 hc).mono ?_
 rintro e w' ⟨rfl, sv⟩
 have ho : Out (StO D k) W w' := by obtain ⟨_, _, _, ho⟩ := sv; exact ho
 exact ⟨rfl, h.next sv, ho⟩
end
end
section
structure Rs where
 ps : Nat
 pd : Nat
 pg : Nat
 gg : Nat
 gc : Nat
 pm : Nat
 lb : Nat
section
variable {D M R : Nat → Prop} {V W W' : World} {k : Rs} {st st' : St}
end
end
section
section
variable {D M : Nat → Prop} {W : World} {k : Rs} {st : St}
end
end
section
section
variable {D M : Nat → Prop} {W : World} {k : Rs} {st : St}
end
end
section
theorem putFstep (f : Nat) (st : St) (p : Pt) (l : List Pt) : putF (f + 1) st (p :: l) = if (openZ st.s st.zs (needP p) st.L).2.1 = true then putF f (writeM { st with L := (openZ st.s st.zs (needP p) st.L).2.2 } (openZ st.s st.zs (needP p) st.L).1 ((p :: l).take (frontN st (openZ st.s st.zs (needP p) st.L).1 (p :: l)))) ((p :: l).drop (frontN st (openZ st.s st.zs (needP p) st.L).1 (p :: l))) else (160, { st with L := (openZ st.s st.zs (needP p) st.L).2.2 }) := rfl
section
variable {R : Nat → Prop} {V w : World} {k : Rs} {st : St}
end
end
section
/-- What Flush, Mark and Clear make of a store. -/
def flushM (st : St) : St := { st with zs := flushZ st.zs }
open Classical in
noncomputable def markM (st : St) : Int × St := (svE st.s (1 - st.o) st.S, { st with zs := svZ st.s st.zs (1 - st.o) st.q st.S, o := if svE st.s (1 - st.o) st.S = 0 then 1 - st.o else st.o })
def emIn (S : List Pl) (z : Int) : Prop := ∀ p ∈ S, p.2.1 ≠ z
instance (S : List Pl) (z : Int) : Decidable (emIn S z) := by unfold emIn; infer_instance
def clearOk (st : St) (z : Int) : Prop := stZ st.L z = 3 ∧ emIn st.S z
instance (st : St) (z : Int) : Decidable (clearOk st z) := by unfold clearOk; infer_instance
section
variable {D : Nat → Prop} {W W' : World} {k : Bs} {st : St} {c : Nat}
theorem StV.svstep {zs' : List Zn} (h : StV D W k st c) (hs : SvSt 105 D W k.pd st.s zs' W') (hw : Wf st.s zs') : Sv D W k { st with zs := zs' } c W' := by
 obtain ⟨O', hd, hO, ho⟩ := hs
 have hlen : zs'.length = st.zs.length := by have := hw.len; have := h.wf.len; omega
 have hn : ∀ x, k.has x → ¬ D x := h.nd
 refine ⟨fun x => O' x ∧ x < W'.heap.size, ⟨ho.blk h.hp (hn _ (.inl rfl)), hd.there, h.sg.out ho (hn _ (.inr (.inl rfl))) (hn _ (.inr (.inr (.inl rfl)))), h.mp.out ho ?_, ho.blk h.hl (hn _ (.inr (.inr (.inr (.inr (.inr (.inr rfl))))))), hw, h.fq, by rw [hlen]; exact h.len, fun x hx => hx.2, ?_, h.ap⟩, fun x hx => hO x hx.1, ho.mono (fun j e _ => .inl e)⟩
 ·rintro x (rfl | rfl | rfl)
  ·exact hn _ (.inr (.inr (.inr (.inl rfl))))
  ·exact hn _ (.inr (.inr (.inr (.inr (.inl rfl)))))
  ·exact hn _ (.inr (.inr (.inr (.inr (.inr (.inl rfl))))))
 ·rintro x hx ⟨hd, _⟩
  rcases hO x hd with h' | h'
  ·exact hn x hx h'
  ·have := h.kin x hx; omega
theorem sflush_of (h : StV D W k st c) : Calls Tryz.prog 19 #[.pointer (some ⟨k.ps, 0, none⟩)] W fun e w' => (∃ v, e = .returned v) ∧ Sv D W k (flushM st) c w' := by
 obtain ⟨c0, _⟩ := h.cells
 have HF : Hid (Calls Tryz.prog 55 #[.pointer (some ⟨k.pd, 0, none⟩)] W fun e w' => (∃ v, e = .returned v) ∧ Sv D W k (flushM st) c w') := (flush_of h.dv).mono (fun e w' hh => ⟨hh.1, h.dvstep hh.2 h.wf.flush⟩)
 clear h
 go_enter Tryz.func19, Tryz.ntmps19
 go_wp2_with (go_at_call 55; refine HF.out.mono ?_; rintro e w2 ⟨⟨v, rfl⟩, sv⟩)
 first | go_end0 | refine bodyPost_ret (results_none rfl _ _ _) rfl ?_
 exact ⟨⟨_, rfl⟩, sv⟩
set_option maxHeartbeats 4000000 in
theorem smark_of (h : StV D W k st c) (hc : c < 100000) (hS : st.S.length ≤ 100000) (ho : st.o = 0 ∨ st.o = 1) : Calls Tryz.prog 54 #[.pointer (some ⟨k.ps, 0, none⟩)] W fun e w' => e = .returned (.int .u16 (markM st).1) ∧ Sv D W k (markM st).2 c w' := by
 obtain ⟨c0, c1, c2, c3, c4, c5⟩ := h.cells
 obtain ⟨o1, ho1⟩ : ∃ o1, o1 = 1 - st.o := ⟨_, rfl⟩
 have hwo : IntKind.i64.wrap (1 - st.o) = o1 := by rw [ho1, IntKind.wrap_i64]; omega
 have H : Hid (StV D W k st c ∧ o1 = 1 - st.o) := ⟨h, ho1⟩
 have kc : ∀ Y, Below W.heap.size W Y → Y.cell? ⟨k.ps, 0, none⟩ = some (.pointer (some ⟨k.pd, 0, none⟩)) ∧ Y.cell? ⟨k.ps, 2, none⟩ = some (.pointer (some ⟨k.pm, 0, none⟩)) ∧ Y.cell? ⟨k.ps, 3, none⟩ = some (.int .u64 st.q) := fun Y hY => ⟨(h.under hY).cells.1, (h.under hY).cells.2.2.1, (h.under hY).cells.2.2.2.1⟩
 have HAl : Hid (∀ Y, Below W.heap.size W Y → Calls Tryz.prog 52 #[.pointer (some ⟨k.pm, 0, none⟩)] Y fun e Z => ∃ a n cc, e = .returned (.slice a n cc) ∧ (KIn Z a n st.S ∧ n ≤ cc ∧ Below W.heap.size W Z) ∧ Z.cell? ⟨k.ps, 0, none⟩ = some (.pointer (some ⟨k.pd, 0, none⟩)) ∧ Z.cell? ⟨k.ps, 2, none⟩ = some (.pointer (some ⟨k.pm, 0, none⟩)) ∧ Z.cell? ⟨k.ps, 3, none⟩ = some (.int .u64 st.q)) := fun Y hY => by
  refine (mAll_of k.pm k.b1 k.b2 st.S c Y (h.under hY).mp hc).mono ?_
  rintro e Z ⟨a, n, cc, rfl, ow, hZ⟩
  have hb := hY.trans (hZ.mono hY.size)
  have hn : st.S.length = n := (own_pl ow).1
  exact ⟨a, n, cc, rfl, ⟨own_kin ow (by unfold maxLen; omega) h.mp.good.fits, lown_cap ow, hb⟩, kc Z hb⟩
 have HSa : Hid (∀ Y a n cc, (KIn Y a n st.S ∧ n ≤ cc ∧ Below W.heap.size W Y) → Calls Tryz.prog 26 #[.pointer (some ⟨k.pd, 0, none⟩), .int .i64 o1, .agg #[.int .u64 st.q, .slice a n cc]] Y fun e Z => e = .returned (.int .u16 (svE st.s o1 st.S)) ∧ Sv D W k { st with zs := svZ st.s st.zs o1 st.q st.S } c Z ∧ Z.cell? ⟨k.ps, 0, none⟩ = some (.pointer (some ⟨k.pd, 0, none⟩)) ∧ Z.cell? ⟨k.ps, 2, none⟩ = some (.pointer (some ⟨k.pm, 0, none⟩)) ∧ Z.cell? ⟨k.ps, 3, none⟩ = some (.int .u64 st.q)) := fun Y a n cc hY => by
  have hv := h.under hY.2.2
  refine (ksave_of o1 st.q a n cc st.S hv.dv hv.wf hv.fq hY.1 hY.2.1).mono ?_
  rintro e Z ⟨rfl, hs⟩
  have sv := hv.svstep hs (swf_svZ hv.wf _ _ _)
  obtain ⟨D9, hv9, hD9, ho9⟩ := sv
  exact ⟨rfl, Sv.from hY.2.2 ⟨D9, hv9, hD9, ho9⟩, hv9.cells.1, hv9.cells.2.2.1, hv9.cells.2.2.2.1⟩
 clear h kc ho1
 go_enter Tryz.func54, Tryz.ntmps54
 go_wp2_with fail
 go_region_held3 (fun Y => Y.cell? ⟨k.ps, 0, none⟩ = some (.pointer (some ⟨k.pd, 0, none⟩)) ∧ Y.cell? ⟨k.ps, 2, none⟩ = some (.pointer (some ⟨k.pm, 0, none⟩)) ∧ Y.cell? ⟨k.ps, 3, none⟩ = some (.int .u64 st.q)) (first | exact ⟨c0, c2, c3⟩ | exact ⟨d0, d1, d2⟩ | exact ⟨e0, e1, e2⟩)
  (first
  | (go_simp; go_at_call 52; refine (HAl.out _ (by exact (Below.refl _ _).drew)).mono ?_; rintro e Y ⟨a, n, cc, rfl, hY, d0, d1, d2⟩)
  | (go_simp; go_at_call 26; refine (HSa.out _ a n cc hY).mono ?_; rintro e Z ⟨rfl, sv, e0, e1, e2⟩))
 have HZ : Hid (Sv D W k { st with zs := svZ st.s st.zs o1 st.q st.S } c Z) := sv
 clear sv hY d0 d1 d2 e0 e1 e2 c0 c1 c2 c3 c4 c5 HAl HSa
 by_cases hE : svE st.s o1 st.S = 0
 ·have HM : Hid (markM st = (0, { st with zs := svZ st.s st.zs o1 st.q st.S, o := o1 })) := by
   have e := H.out.2
   show _ = _
   unfold markM
   rw [← e, if_pos hE, hE]
  obtain ⟨D9, hv9, hD9, ho9⟩ := HZ.out
  obtain ⟨_, _, _, _, _, z5⟩ := hv9.cells
  have f5 := hv9.hp.frozen 5
  have HV : Hid (Sv D W k { st with zs := svZ st.s st.zs o1 st.q st.S, o := o1 } c (Z.setCell ⟨k.ps, 5, none⟩ (.int .i64 o1))) := Sv.next hD9 ho9 (hv9.setP (q := st.q) (o := o1) rfl hv9.fq)
  clear hv9 hD9 ho9 HZ
  simp only at z5
  rw [hE]
  clear hE
  go_wp2
  go_ret
  rw [HM.out]
  exact ⟨rfl, HV.out⟩
 ·have hE' : (svE st.s o1 st.S == 0) = false := by simpa using hE
  have HM : Hid (markM st = (svE st.s o1 st.S, { st with zs := svZ st.s st.zs o1 st.q st.S })) := by
   have e := H.out.2
   show _ = _
   unfold markM
   rw [← e, if_neg hE]
  generalize svE st.s o1 st.S = E at HM hE hE' ⊢
  go_wp2
  go_ret
  rw [HM.out]
  exact ⟨rfl, HZ.out⟩
end
end
section
section
variable {D M : Nat → Prop} {W W' : World} {k : Rs} {st : St}
end
end

section
/-- What holds of a store that was made new: each place is one of a block that is there, in a zone of the log; the first two zones are kept. -/
structure Inv2 (st : St) : Prop where
 inv : Inv st
 hi : ∀ x ∈ st.S, 2 ≤ x.2.1
 k0 : st.L.getD 0 0 = 4
 k1 : st.L.getD 1 0 = 4
 o : st.o = 0 ∨ st.o = 1
section
variable {B : Nat} {W w w' : World} {ps rs : Nat} {st st' : St} {m m' : Nat}
end
end
section
section
variable {B : Nat} {W w w' : World} {ps rs : Nat} {st : St} {m : Nat}
end
end
section
section
variable {B : Nat} {W w : World} {ps rs : Nat} {st : St} {m : Nat}
end
end
section
section
variable {B : Nat} {W w : World} {ps rs : Nat} {st : St} {m : Nat}
end
end
theorem turn_keep {L : List Int} {z a b : Int} {i : Nat} (h : L.getD i 0 = 4) (ha : a ≠ 4) (h0 : a ≠ 0) : (turnZ L z a b).getD i 0 = 4 := by
 unfold turnZ
 split
 ·rename_i hz
  unfold stZ at hz
  split at hz
  ·by_cases hi : z.toNat < L.length
   ·rw [getD_set _ _ _ _ hi]
    split
    ·rename_i e
     rw [e] at h; omega
    ·exact h
   ·rw [List.set_eq_of_length_le (by omega)]
    exact h
  ·omega
 ·exact h
theorem take_keep {L : List Int} {i : Nat} (h : L.getD i 0 = 4) : (takeZ L).getD i 0 = 4 := by
 unfold takeZ
 split
 ·rename_i hl
  rw [getD_set _ _ _ _ hl]
  split
  ·rename_i e
   have := first_at hl
   rw [e] at h
   omega
  ·exact h
 ·exact h
theorem cur_keep {L : List Int} {i : Nat} (h : L.getD i 0 = 4) : (curL L).getD i 0 = 4 := by
 unfold curL
 split
 ·exact h
 ·exact take_keep h
theorem open_keep (s : Sh) (zs : List Zn) (k : Int) {i : Nat} : ∀ (m : Nat) (L : List Int), muZ L = m → L.getD i 0 = 4 → (openZ s zs k L).2.2.getD i 0 = 4 := by
 intro m
 induction m with
 | zero =>
  intro L hm h
  rw [openZ_done (fun h => by have := cur_mu h.1; omega)]
  exact cur_keep h
 | succ m ih =>
  intro L hm h
  by_cases hn : curB L = true ∧ roomZ s zs (curA L) < k
  ·have hc := cur_mu hn.1
   rw [← openZ_more hn.1 hn.2]
   exact ih _ (by omega) (turn_keep (cur_keep h) (by decide) (by decide))
  ·rw [openZ_done hn]
   exact cur_keep h
theorem wr_hi {st : St} {z : Nat} {l : List Pt} (hi : Inv st) (hz : z < st.zs.length) (hl0 : 0 < l.length) (hl1 : (l.length : Int) ≤ roomI st.s.b) (ho : okP st.s l) (hf : ∀ p ∈ l, p.Fits) (hr : ((datN l : Nat) : Int) + 1 ≤ roomZ st.s st.zs z) (h2 : 2 ≤ z) (hS : ∀ x ∈ st.S, 2 ≤ x.2.1) :
  ∀ j, j ≤ l.length → ∀ x ∈ (wrY st z l j).2, 2 ≤ x.2.1 := by
 intro j
 induction j with
 | zero => intro _ x hx; rw [wrY_zero] at hx; exact hS x hx
 | succ j ih =>
  intro hj x hx
  obtain ⟨p, hp⟩ : ∃ p, l[j]? = some p := ⟨l[j], by simp [show j < l.length by omega]⟩
  obtain ⟨w1, w2, w3, w4, w5⟩ := wr_mem hi hz hl0 hl1 ho hf hr j (by omega)
  rw [wrY_next hp] at hx
  unfold oneP at hx
  split at hx
  ·exact ih (by omega) x (mem_dropS.1 hx).1
  ·rename_i hpx
   rcases (mem_putS w2.1).1 hx with rfl | ⟨h', _⟩
   ·have hd : (p.d.length : Int) = st.s.b := (ho p (List.mem_of_getElem? hp)).resolve_left hpx
    have hdn : datN (l.take j) + 1 ≤ datN l := by
     have e1 : l.take (j + 1) = l.take j ++ [p] := take_snoc hp
     have e2 : datN (l.take (j + 1)) = datN (l.take j) + 1 := by rw [e1]; unfold datN; simp [hpx]
     have e3 : datN (l.take (j + 1)) ≤ datN l := by unfold datN; exact ((List.take_sublist (j + 1) l).filter _).length_le
     omega
    have hnf : ¬ appFull st.s (wrY st z l j).1 z := by unfold appFull roomZ at *; omega
    have hok : appOk st.s (wrY st z l j).1 z p.d := ⟨by omega, by omega, hd⟩
    show 2 ≤ (appA st.s (wrY st z l j).1 z p.d).1
    unfold appA
    rw [if_pos hok, if_neg hnf]
    show 2 ≤ (z : Int)
    omega
   ·exact ih (by omega) x h'
theorem st0_inv2 {s : Sh} (h : RightS s) : Inv2 (st0 s) := by
 exact ⟨st0_inv h, (fun x hx => by cases hx), rfl, rfl, .inl rfl⟩
section
section
variable {B : Nat} {W w : World} {ps rs : Nat} {st : St} {m : Nat}
end
end
section
section
variable {B : Nat} {W w : World} {ps rs : Nat} {st : St} {m m' : Nat}
end
end
end Go.Proofs.YtcdnjeiamihhbabGreat
