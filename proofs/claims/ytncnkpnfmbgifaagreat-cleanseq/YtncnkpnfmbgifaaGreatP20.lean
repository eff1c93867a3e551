/- Texts of this seat, one behind the other: LmF, LmU, LmC, ZZn. -/
import Derived.Test.YtncnkpnfmbgifaaGreatP19
import Derived.Deep.DeepCutAuto
import Derived.Test.YtncnkpnfmbgifaaGreatP13
/- What one call of forget, Drop and Put does. -/
namespace Go.Proofs.YtncnkpnfmbgifaaGreat
open Go.RowKit
set_option linter.unusedVariables false
set_option maxRecDepth 4000

def Two (b1 b2 : Nat) : Nat → Prop := fun k => k = b1 ∨ k = b2
theorem LmP.drop1 {w : World} {p b1 b2 : Nat} {S : List Pl} {c : Nat} (h : LmP w p b1 b2 S c) {n s : Pr} (hn : FitsN n) (hg : getS S n = some s) (ty : TypeId) :
  ∃ w1, (Builtin.delete_ #[102, 107] ty #[.map (some b1), .agg #[.int .u32 n.1, .int .u64 n.2]]).run Tryz.prog w = .ok (.tuple #[]) w1 ∧ Out (Two b1 b2) w w1 ∧ w1.heap.size = w.heap.size ∧ Blk w1 p [.map (some b1), .map (some b2)] 105 ∧
   ∀ w1' : World, (∀ k, k = p ∨ k = b1 ∨ k = b2 → w1'.heap[k]? = w1.heap[k]?) → ∀ ty', ∃ w2, (Builtin.delete_ #[103, 112] ty' #[.map (some b2), .agg #[.int .i64 s.1, .int .i64 s.2]]).run Tryz.prog w1' = .ok (.tuple #[]) w2 ∧ LmP w2 p b1 b2 (dropS S n) c ∧ Out (Two b1 b2) w1' w2 := by
 have hm := (getS_some h.good).1 hg
 have hs : FitsS s := (h.good.fits _ hm).2
 obtain ⟨w1, hr, k1, k2⟩ := h.m1.drop okN (fitsN_ok hn) ty
 have o1 := turned_out k2
 have hp1 : Blk w1 p [.map (some b1), .map (some b2)] 105 := o1.blk h.hp (h.m1.no_blk h.hp)
 have m2' : MapIs kS w1 b2 c (fun s n => (n, s) ∈ S) := h.m2.same (o1.block b2 h.m2.lt (fun e => h.ne e.symm))
 refine ⟨w1, hr, o1.mono (fun j e _ => .inl e), turned_size k2, hp1, fun w1' hs1 ty' => ?_⟩
 have hp1' : Blk w1' p [.map (some b1), .map (some b2)] 105 := by unfold Blk; rw [hs1 p (.inl rfl)]; exact hp1
 have m1' := k1.same (hs1 b1 (.inr (.inl rfl)))
 have m2'' := m2'.same (hs1 b2 (.inr (.inr rfl)))
 obtain ⟨w2, hr2, j1, j2⟩ := m2''.drop okS (fitsS_ok hs) ty'
 have o2 := turned_out j2
 refine ⟨w2, hr2, ⟨o2.blk hp1' (m2''.no_blk hp1'), (m1'.same (o2.block b1 m1'.lt h.ne)).congr (fun x y _ => ?_), j1.congr (fun x y _ => ?_), h.ne, h.good.drop n⟩, o2.mono (fun j e _ => .inr e)⟩
 ·rw [mem_dropS]
 ·rw [mem_dropS]
  constructor
  ·rintro ⟨h1, h2⟩
   refine ⟨h1, fun e => h2 ?_⟩
   have := h.good.one_name h1 hm e
   exact (congrArg Prod.snd this)
  ·rintro ⟨h1, h2⟩
   refine ⟨h1, fun e => h2 ?_⟩
   have := h.good.one_spot h1 hm e
   exact (congrArg Prod.fst this)

theorem mForget_of (p b1 b2 : Nat) (S : List Pl) (c : Nat) (n : Pr) (w : World) (h : LmP w p b1 b2 S c) (hn : FitsN n) :
  Calls Tryz.prog 178 #[.pointer (some ⟨p, 0, none⟩), .agg #[.int .u32 n.1, .int .u64 n.2]] w fun e w' => e = .returned (.bool (getS S n).isSome) ∧ LmP w' p b1 b2 (dropS S n) c ∧ Out (Two b1 b2) w w' := by
 have hh := h.alloc (.cells #[.int .u32 n.1, .int .u64 n.2] 107)
 have c0 := hh.hp.cell 0
 have hl := hh.drew.lookN hn
 have hh2 := hh.alloc (.cells #[.int .i64 0, .int .i64 0] 112)
 have d0 := hh2.hp.cell 0
 have hl2 := hh2.drew.lookN hn
 simp only [List.getElem?_cons_zero] at c0 d0
 cases ho : getS S n with
 | none =>
  simp only [ho, Option.getD_none, Option.isSome_none] at hl hl2
  have H : Hid (LmP ((w.alloc (.cells #[.int .u32 n.1, .int .u64 n.2] 107)).alloc (.cells #[.int .i64 0, .int .i64 0] 112)).drew p b1 b2 (dropS S n) c ∧ Out (Two b1 b2) w ((w.alloc (.cells #[.int .u32 n.1, .int .u64 n.2] 107)).alloc (.cells #[.int .i64 0, .int .i64 0] 112)).drew) :=
   ⟨by rw [drop_none ho]; exact hh2.drew, (((Out.refl _ _).alloc _).alloc _).drew⟩
  clear hh hh2 ho h
  go_enter Tryz.func178, Tryz.ntmps178
  go_wp2
  go_region
  all_goals go_wp2
  all_goals go_ret
  all_goals exact ⟨rfl, H.out⟩
 | some s =>
  simp only [ho, Option.getD_some, Option.isSome_some] at hl hl2
  have hV : LmP ((w.alloc (.cells #[.int .u32 n.1, .int .u64 n.2] 107)).alloc (.cells #[.int .i64 s.1, .int .i64 s.2] 112)).drew p b1 b2 S c := (hh.alloc _).drew
  have oV : Out (Two b1 b2) w ((w.alloc (.cells #[.int .u32 n.1, .int .u64 n.2] 107)).alloc (.cells #[.int .i64 s.1, .int .i64 s.2] 112)).drew := (((Out.refl _ _).alloc _).alloc _).drew
  have bN : Blk ((w.alloc (.cells #[.int .u32 n.1, .int .u64 n.2] 107)).alloc (.cells #[.int .i64 s.1, .int .i64 s.2] 112)).drew w.heap.size (prL .u32 .u64 n) 107 := ((Blk.new' rfl rfl).alloc _).drew
  have bS : Blk ((w.alloc (.cells #[.int .u32 n.1, .int .u64 n.2] 107)).alloc (.cells #[.int .i64 s.1, .int .i64 s.2] 112)).drew (w.heap.size + 1) (prL .i64 .i64 s) 112 := (Blk.new' (by simp) rfl).drew
  have H : Hid (LmP ((w.alloc (.cells #[.int .u32 n.1, .int .u64 n.2] 107)).alloc (.cells #[.int .i64 s.1, .int .i64 s.2] 112)).drew p b1 b2 S c ∧ Out (Two b1 b2) w ((w.alloc (.cells #[.int .u32 n.1, .int .u64 n.2] 107)).alloc (.cells #[.int .i64 s.1, .int .i64 s.2] 112)).drew ∧ Blk ((w.alloc (.cells #[.int .u32 n.1, .int .u64 n.2] 107)).alloc (.cells #[.int .i64 s.1, .int .i64 s.2] 112)).drew w.heap.size (prL .u32 .u64 n) 107 ∧ Blk ((w.alloc (.cells #[.int .u32 n.1, .int .u64 n.2] 107)).alloc (.cells #[.int .i64 s.1, .int .i64 s.2] 112)).drew (w.heap.size + 1) (prL .i64 .i64 s) 112 ∧ getS S n = some s) := ⟨hV, oV, bN, bS, ho⟩
  clear hh hh2 h hV oV bN bS ho
  go_enter Tryz.func178, Tryz.ntmps178
  go_wp2
  go_region
  all_goals go_wp2_with fail
  all_goals generalize ((w.alloc (.cells #[.int .u32 n.1, .int .u64 n.2] 107)).alloc (.cells #[.int .i64 s.1, .int .i64 s.2] 112)).drew = V at H ⊢
  all_goals clear hl hl2 c0 d0
  all_goals obtain ⟨hV, oV, bN, bS, ho⟩ := H.out
  all_goals clear H
  all_goals obtain ⟨W, hd1, oW, sW, pW, next⟩ := hV.drew.drop1 hn ho 0
  all_goals have c0 := hV.hp.cell 0
  all_goals have n0 := bN.cell 0
  all_goals have n1 := bN.cell 1
  all_goals simp only [prL, List.getElem?_cons_zero, List.getElem?_cons_succ] at c0 n0 n1
  all_goals go_region
  all_goals go_wp2_with fail
  all_goals have bS2 : Blk W (w.heap.size + 1) (prL .i64 .i64 s) 112 := oW.blk bS.drew (fun e => by rcases e with e | e; exact hV.m1.no_blk bS e; exact hV.m2.no_blk bS e)
  all_goals obtain ⟨Z, hd2, hZ, oZ⟩ := next W.drew (fun _ _ => rfl) 0
  all_goals have c1 := pW.cell 1
  all_goals have s0 := bS2.cell 0
  all_goals have s1 := bS2.cell 1
  all_goals have HZ : Hid (LmP Z p b1 b2 (dropS S n) c ∧ Out (Two b1 b2) w Z) := ⟨hZ, ((oV.drew).trans oW (fun j e => .inl e)).drew.trans oZ (fun j e => .inl e)⟩
  all_goals simp only [prL, List.getElem?_cons_zero, List.getElem?_cons_succ] at c1 s0 s1
  all_goals clear hV oV bN bS ho hd1 oW sW pW next c0 n0 n1 bS2 hZ oZ
  all_goals go_region
  all_goals go_wp2
  all_goals go_ret
  all_goals exact ⟨rfl, HZ.out⟩
theorem mDrop_of (p b1 b2 : Nat) (S : List Pl) (c : Nat) (n : Pr) (w : World) (h : LmP w p b1 b2 S c) (hn : FitsN n) :
  Calls Tryz.prog 126 #[.pointer (some ⟨p, 0, none⟩), .int .u32 n.1, .int .u64 n.2] w fun e w' => e = .returned (.bool (getS S n).isSome) ∧ LmP w' p b1 b2 (dropS S n) c ∧ Out (Two b1 b2) w w' := by
 have C := mForget_of p b1 b2 S c n w h hn
 clear h hn
 go_enter Tryz.func126, Tryz.ntmps126
 go_wp2_with fail
 refine C.mono ?_
 rintro e w' ⟨rfl, hx⟩
 have H : Hid (LmP w' p b1 b2 (dropS S n) c ∧ Out (Two b1 b2) w w') := hx
 clear hx C
 go_wp2
 go_ret
 exact ⟨rfl, H.out⟩

theorem LmP.put1 {w : World} {p b1 b2 : Nat} {S : List Pl} {c : Nat} (h : LmP w p b1 b2 S c) {x : Pl} (hx : FitsP x) (hc : c < 100000) (h1 : getS S x.1 = none) (h2 : atS S x.2 = none) (S' : List Pl) (gS : Good S') (hS' : ∀ q, q ∈ S' ↔ q = x ∨ q ∈ S) :
  ∃ (v1 v2 : Value) (s1 s2 : Nat) (w1 w2 w3 w4 : World), (Instr.mapEntry 102 (.map (some b1)) (.agg #[.int .u32 x.1.1, .int .u64 x.1.2])).run Tryz.prog w = .ok (.tuple #[v1, Value.int .i64 (s1 : Int)]) w1 ∧
   (Instr.entryStore 102 (.map (some b1)) (.int .i64 (s1 : Int)) (.agg #[.int .i64 x.2.1, .int .i64 x.2.2])).run Tryz.prog w1 = .ok () w2 ∧
   (Instr.mapEntry 103 (.map (some b2)) (.agg #[.int .i64 x.2.1, .int .i64 x.2.2])).run Tryz.prog w2 = .ok (.tuple #[v2, Value.int .i64 (s2 : Int)]) w3 ∧
   (Instr.entryStore 103 (.map (some b2)) (.int .i64 (s2 : Int)) (.agg #[.int .u32 x.1.1, .int .u64 x.1.2])).run Tryz.prog w3 = .ok () w4 ∧
   LmP w4 p b1 b2 S' (c + 1) ∧ Out (Two b1 b2) w w1 ∧ Out (Two b1 b2) w w2 ∧ Out (Two b1 b2) w w3 ∧ Out (Two b1 b2) w w4 := by
 obtain ⟨v1, s1, w1, w2, e1, e2, k1, t1, t2⟩ := h.m1.entry okN (fitsN_ok hx.1) x.2 (by omega)
 have o2 := turned_out t2
 have hp2 : Blk w2 p [.map (some b1), .map (some b2)] 105 := o2.blk h.hp (h.m1.no_blk h.hp)
 have m2' : MapIs kS w2 b2 c (fun s n => (n, s) ∈ S) := h.m2.same (o2.block b2 h.m2.lt (fun e => h.ne e.symm))
 obtain ⟨v2, s2, w3, w4, e3, e4, k2, t3, t4⟩ := m2'.entry okS (fitsS_ok hx.2) x.1 (by omega)
 have o4 := turned_out t4
 refine ⟨v1, v2, s1, s2, w1, w2, w3, w4, e1, e2, e3, e4, ⟨o4.blk hp2 (m2'.no_blk hp2), (k1.same (o4.block b1 k1.lt h.ne)).congr (fun n s _ => ?_), k2.congr (fun s n _ => ?_), h.ne, gS⟩, (turned_out t1).mono (fun j e _ => .inl e), o2.mono (fun j e _ => .inl e), (o2.mono (fun j e _ => .inl e)).trans ((turned_out t3).mono (O' := Two b1 b2) (fun j e _ => .inr e)) (fun j e => .inl e), (o2.mono (fun j e _ => .inl e)).trans (o4.mono (O' := Two b1 b2) (fun j e _ => .inr e)) (fun j e => .inl e)⟩
 ·rw [hS']
  constructor
  ·rintro (⟨rfl, rfl⟩ | ⟨_, hm⟩)
   ·exact .inl rfl
   ·exact .inr hm
  ·rintro (e | hm)
   ·exact .inl ⟨congrArg Prod.fst e, congrArg Prod.snd e⟩
   ·refine .inr ⟨fun e => ?_, hm⟩
    exact getS_none.1 h1 s (by rw [← e]; exact hm)
 ·rw [hS']
  constructor
  ·rintro (⟨rfl, rfl⟩ | ⟨_, hm⟩)
   ·exact .inl rfl
   ·exact .inr hm
  ·rintro (e | hm)
   ·exact .inl ⟨congrArg Prod.snd e, congrArg Prod.fst e⟩
   ·refine .inr ⟨fun e => ?_, hm⟩
    exact atS_none.1 h2 n (by rw [← e]; exact hm)
theorem put_mem {S : List Pl} (g : Good S) (x : Pl) {n : Pr} (ha : atS (dropS S x.1) x.2 = some n) (q : Pl) : q ∈ putS S x ↔ q = x ∨ q ∈ dropS (dropS S x.1) n := by
 have hm := (atS_some (g.drop x.1)).1 ha
 rw [mem_putS g, mem_dropS, mem_dropS]
 constructor
 ·rintro (h | ⟨h1, h2, h3⟩)
  ·exact .inl h
  ·refine .inr ⟨⟨h1, h2⟩, fun e => h3 ?_⟩
   have := g.one_name h1 (mem_dropS.1 hm).1 e
   rw [this]
 ·rintro (h | ⟨⟨h1, h2⟩, h3⟩)
  ·exact .inl h
  ·refine .inr ⟨h1, h2, fun e => h3 ?_⟩
   have := g.one_spot h1 (mem_dropS.1 hm).1 e
   rw [this]
theorem put_mem0 {S : List Pl} (g : Good S) (x : Pl) (ha : atS (dropS S x.1) x.2 = none) (q : Pl) : q ∈ putS S x ↔ q = x ∨ q ∈ dropS S x.1 := by
 rw [mem_putS g, mem_dropS]
 constructor
 ·rintro (h | ⟨h1, h2, h3⟩)
  ·exact .inl h
  ·exact .inr ⟨h1, h2⟩
 ·rintro (h | ⟨h1, h2⟩)
  ·exact .inl h
  ·exact .inr ⟨h1, h2, fun e => atS_none.1 ha q.1 (mem_dropS.2 ⟨by rw [← e]; exact h1, h2⟩)⟩
theorem get_drop (S : List Pl) (n : Pr) : getS (dropS S n) n = none := getS_none.2 (fun s h => (mem_dropS.1 h).2 rfl)
theorem get_drop2 (S : List Pl) (n m : Pr) : getS (dropS (dropS S n) m) n = none := getS_none.2 (fun s h => (mem_dropS.1 (mem_dropS.1 h).1).2 rfl)
theorem at_drop2 {S : List Pl} (g : Good S) {x : Pr} {m : Pr} (h : atS S x = some m) : atS (dropS S m) x = none := atS_none.2 (fun n hm => (mem_dropS.1 hm).2 (by
 have := g.one_spot (mem_dropS.1 hm).1 ((atS_some g).1 h) rfl
 exact congrArg Prod.fst this))
end Go.Proofs.YtncnkpnfmbgifaaGreat

/- What one call of Put does. -/
namespace Go.Proofs.YtncnkpnfmbgifaaGreat
open Go.RowKit
set_option linter.unusedVariables false
set_option maxRecDepth 4000

def PutA (w : World) (p b1 b2 : Nat) (S : List Pl) (c : Nat) (x : Pl) (g1 g2 : Nat) (wr : World) : Prop :=
 LmP wr p b1 b2 S c ∧ Blk wr g1 (prL .u32 .u64 x.1) 107 ∧ Blk wr g2 (prL .i64 .i64 x.2) 112 ∧ w.heap.size ≤ g1 ∧ w.heap.size ≤ g2 ∧ Out (Two b1 b2) w wr
set_option maxHeartbeats 4000000 in
theorem mPut_of (p b1 b2 : Nat) (S : List Pl) (c : Nat) (x : Pl) (w : World) (h : LmP w p b1 b2 S c) (hx : FitsP x) (hc : c < 100000) :
  Calls Tryz.prog 120 #[.pointer (some ⟨p, 0, none⟩), .agg #[.int .u32 x.1.1, .int .u64 x.1.2, .int .i64 x.2.1, .int .i64 x.2.2]] w fun e w' => e = .returned (.tuple #[]) ∧ LmP w' p b1 b2 (putS S x) (c + 1) ∧ Out (Two b1 b2) w w' := by
 have H : Hid (LmP w p b1 b2 S c) := h
 clear h
 go_enter Tryz.func120, Tryz.ntmps120
 go_wp2
 go_cut [4, 5] (fun s4 s5 wr => ∃ g1 g2, s4 = .pointer (some ⟨g1, 0, none⟩) ∧ s5 = .pointer (some ⟨g2, 0, none⟩) ∧ PutA w p b1 b2 S c x g1 g2 wr)
 case first =>
  go_region
  all_goals go_wp2_with fail
  all_goals go_meet
  all_goals first
   | (refine ⟨w.heap.size + 1 + 1, w.heap.size + 1, rfl, rfl, (((H.out.alloc _).alloc _).alloc _).drew, (Blk.new' (by simp) rfl).drew, ((Blk.new' (by simp) rfl).alloc _).drew, by omega, by omega, ((((Out.refl _ _).alloc _).alloc _).alloc _).drew⟩; done)
   | (refine ⟨w.heap.size + 1, w.heap.size + 1 + 1, rfl, rfl, (((H.out.alloc _).alloc _).alloc _).drew, ((Blk.new' (by simp) rfl).alloc _).drew, (Blk.new' (by simp) rfl).drew, by omega, by omega, ((((Out.refl _ _).alloc _).alloc _).alloc _).drew⟩; done)
 case rest =>
  obtain ⟨g1, g2, rfl, rfl, hA⟩ := hcut
  clear H
  have C := mForget_of p b1 b2 S c x.1 wc hA.1 hx.1
  have n0 := hA.2.1.cell 0
  have n1 := hA.2.1.cell 1
  simp only [prL, List.getElem?_cons_zero, List.getElem?_cons_succ] at n0 n1
  have HA : Hid (PutA w p b1 b2 S c x g1 g2 wc) := hA
  clear hA
  go_wp2_with fail
  refine C.mono ?_
  rintro e V ⟨rfl, hV, oV⟩
  have aV : PutA w p b1 b2 (dropS S x.1) c x g1 g2 V := by
   obtain ⟨h0, h1, h2, h3, h4, h5⟩ := HA.out
   refine ⟨hV, oV.blk h1 ?_, oV.blk h2 ?_, h3, h4, h5.trans oV (fun j e => .inl e)⟩
   ·rintro (e | e)
    ·exact h0.m1.no_blk h1 e
    ·exact h0.m2.no_blk h1 e
   ·rintro (e | e)
    ·exact h0.m1.no_blk h2 e
    ·exact h0.m2.no_blk h2 e
  have HS : Hid (Good S) := HA.out.1.good
  clear HA C n0 n1 hV oV
  have hl := aV.1.drew.lookS hx.2
  have c1 := aV.1.hp.cell 1
  have hl2 := (aV.1.alloc (.cells #[.int .u32 0, .int .u64 0] 107)).drew.lookS hx.2
  have d1 := (aV.1.alloc (.cells #[.int .u32 0, .int .u64 0] 107)).hp.cell 1
  have s0 := aV.2.2.1.cell 0
  have s1 := aV.2.2.1.cell 1
  have s0' := (aV.2.2.1.alloc (.cells #[.int .u32 0, .int .u64 0] 107)).cell 0
  have s1' := (aV.2.2.1.alloc (.cells #[.int .u32 0, .int .u64 0] 107)).cell 1
  simp only [prL, List.getElem?_cons_zero, List.getElem?_cons_succ] at c1 d1 s0 s1 s0' s1'
  have HV : Hid (PutA w p b1 b2 (dropS S x.1) c x g1 g2 V) := aV
  clear aV
  go_wp2_with fail
  cases ho : atS (dropS S x.1) x.2 with
  | none =>
   simp only [ho, Option.getD_none, Option.isSome_none] at hl hl2
   go_cut [6, 7] (fun s6 s7 wr => s6 = .pointer (some ⟨V.heap.size, 0, none⟩) ∧ s7 = .bool false ∧ wr = (V.alloc (.cells #[.int .u32 0, .int .u64 0] 107)).drew)
   case first =>
    clear ho
    go_region
    all_goals go_wp2_with fail
    all_goals go_meet
    all_goals exact ⟨rfl, rfl, rfl⟩
   case rest =>
    obtain ⟨rfl, rfl, rfl⟩ := hcut
    obtain ⟨h0, h1, h2, h3, h4, h5⟩ := HV.out
    have HY : Hid (PutA w p b1 b2 (dropS S x.1) c x g1 g2 (V.alloc (.cells #[.int .u32 0, .int .u64 0] 107)).drew) := ⟨(h0.alloc _).drew, (h1.alloc _).drew, (h2.alloc _).drew, h3, h4, (h5.alloc _).drew⟩
    have hg0 := get_drop S x.1
    have ha0 := ho
    have hmem := put_mem0 HS.out x ho
    clear h0 h1 h2 h3 h4 h5 ho hl hl2 c1 d1 s0 s1 s0' s1' HV
    generalize (V.alloc (.cells #[.int .u32 0, .int .u64 0] 107)).drew = Y at HY ⊢
    go_wp2_with fail
    obtain ⟨h0, h1, h2, h3, h4, h5⟩ := HY.out
    obtain ⟨v1, v2, k1, k2, Y1, Y2, Y3, Y4, e1, e2, e3, e4, hQ, o1, o2, o3, o4⟩ := h0.drew.put1 hx hc hg0 ha0 (putS S x) (HS.out.put hx) hmem
    have nb : ∀ g, g = g1 ∨ g = g2 ∨ g = p → ¬ Two b1 b2 g := by
     rintro g (rfl | rfl | rfl) (e | e)
     ·exact h0.m1.no_blk h1 e
     ·exact h0.m2.no_blk h1 e
     ·exact h0.m1.no_blk h2 e
     ·exact h0.m2.no_blk h2 e
     ·exact h0.m1.no_blk h0.hp e
     ·exact h0.m2.no_blk h0.hp e
    have HQ : Hid (LmP Y4 p b1 b2 (putS S x) (c + 1) ∧ Out (Two b1 b2) w Y4) := ⟨hQ, h5.drew.trans o4 (fun j e => .inl e)⟩
    have fp0Y := h0.hp.cell 0
    have fp1Y := h0.hp.cell 1
    have fn0Y := h1.cell 0
    have fn1Y := h1.cell 1
    have fs0Y := h2.cell 0
    have fs1Y := h2.cell 1
    have fp0Y1 := (o1.blk h0.hp.drew (nb _ (.inr (.inr rfl)))).cell 0
    have fp1Y1 := (o1.blk h0.hp.drew (nb _ (.inr (.inr rfl)))).cell 1
    have fn0Y1 := (o1.blk h1.drew (nb _ (.inl rfl))).cell 0
    have fn1Y1 := (o1.blk h1.drew (nb _ (.inl rfl))).cell 1
    have fs0Y1 := (o1.blk h2.drew (nb _ (.inr (.inl rfl)))).cell 0
    have fs1Y1 := (o1.blk h2.drew (nb _ (.inr (.inl rfl)))).cell 1
    have fp0Y2 := (o2.blk h0.hp.drew (nb _ (.inr (.inr rfl)))).cell 0
    have fp1Y2 := (o2.blk h0.hp.drew (nb _ (.inr (.inr rfl)))).cell 1
    have fn0Y2 := (o2.blk h1.drew (nb _ (.inl rfl))).cell 0
    have fn1Y2 := (o2.blk h1.drew (nb _ (.inl rfl))).cell 1
    have fs0Y2 := (o2.blk h2.drew (nb _ (.inr (.inl rfl)))).cell 0
    have fs1Y2 := (o2.blk h2.drew (nb _ (.inr (.inl rfl)))).cell 1
    have fp0Y3 := (o3.blk h0.hp.drew (nb _ (.inr (.inr rfl)))).cell 0
    have fp1Y3 := (o3.blk h0.hp.drew (nb _ (.inr (.inr rfl)))).cell 1
    have fn0Y3 := (o3.blk h1.drew (nb _ (.inl rfl))).cell 0
    have fn1Y3 := (o3.blk h1.drew (nb _ (.inl rfl))).cell 1
    have fs0Y3 := (o3.blk h2.drew (nb _ (.inr (.inl rfl)))).cell 0
    have fs1Y3 := (o3.blk h2.drew (nb _ (.inr (.inl rfl)))).cell 1
    simp only [prL, List.getElem?_cons_zero, List.getElem?_cons_succ] at fp0Y fp1Y fn0Y fn1Y fs0Y fs1Y fp0Y1 fp1Y1 fn0Y1 fn1Y1 fs0Y1 fs1Y1 fp0Y2 fp1Y2 fn0Y2 fn1Y2 fs0Y2 fs1Y2 fp0Y3 fp1Y3 fn0Y3 fn1Y3 fs0Y3 fs1Y3
    clear h0 h1 h2 h3 h4 h5 hQ o1 o2 o3 o4 nb HY hmem
    go_region
    all_goals go_wp2
    all_goals (first | go_end0 | refine bodyPost_ret (results_none rfl _ _ _) rfl ?_)
    all_goals exact ⟨rfl, HQ.out⟩
  | some m =>
   simp only [ho, Option.getD_some, Option.isSome_some] at hl hl2
   go_cut [6, 7] (fun s6 s7 wr => s6 = .pointer (some ⟨V.heap.size, 0, none⟩) ∧ s7 = .bool true ∧ wr = (V.alloc (.cells #[.int .u32 m.1, .int .u64 m.2] 107)).drew)
   case first =>
    clear ho
    go_region
    all_goals go_wp2_with fail
    all_goals go_meet
    all_goals exact ⟨rfl, rfl, rfl⟩
   case rest =>
    obtain ⟨rfl, rfl, rfl⟩ := hcut
    have hm : FitsN m := (HV.out.1.good.fits _ ((atS_some HV.out.1.good).1 ho)).1
    have C := mForget_of p b1 b2 (dropS S x.1) c m ((V.alloc (.cells #[.int .u32 m.1, .int .u64 m.2] 107)).drew) (HV.out.1.alloc _).drew hm
    have HO : Hid (atS (dropS S x.1) x.2 = some m) := ho
    clear hl hl2 c1 d1 s0 s1 s0' s1' ho
    go_wp2_with fail
    refine C.mono ?_
    rintro e Y ⟨rfl, hZ, oZ⟩
    obtain ⟨h0, h1, h2, h3, h4, h5⟩ := HV.out
    have HY : Hid (PutA w p b1 b2 (dropS (dropS S x.1) m) c x g1 g2 Y) := by
     refine ⟨hZ, oZ.blk (h1.alloc _).drew ?_, oZ.blk (h2.alloc _).drew ?_, h3, h4, (h5.alloc _).drew.trans oZ (fun j e => .inl e)⟩
     ·rintro (e | e)
      ·exact h0.m1.no_blk h1 e
      ·exact h0.m2.no_blk h1 e
     ·rintro (e | e)
      ·exact h0.m1.no_blk h2 e
      ·exact h0.m2.no_blk h2 e
    have hg0 := get_drop2 S x.1 m
    have ha0 := at_drop2 h0.good HO.out
    have hmem := put_mem HS.out x HO.out
    clear h0 h1 h2 h3 h4 h5 hZ oZ HV C HO
    go_wp2_with fail
    obtain ⟨h0, h1, h2, h3, h4, h5⟩ := HY.out
    obtain ⟨v1, v2, k1, k2, Y1, Y2, Y3, Y4, e1, e2, e3, e4, hQ, o1, o2, o3, o4⟩ := h0.drew.put1 hx hc hg0 ha0 (putS S x) (HS.out.put hx) hmem
    have nb : ∀ g, g = g1 ∨ g = g2 ∨ g = p → ¬ Two b1 b2 g := by
     rintro g (rfl | rfl | rfl) (e | e)
     ·exact h0.m1.no_blk h1 e
     ·exact h0.m2.no_blk h1 e
     ·exact h0.m1.no_blk h2 e
     ·exact h0.m2.no_blk h2 e
     ·exact h0.m1.no_blk h0.hp e
     ·exact h0.m2.no_blk h0.hp e
    have HQ : Hid (LmP Y4 p b1 b2 (putS S x) (c + 1) ∧ Out (Two b1 b2) w Y4) := ⟨hQ, h5.drew.trans o4 (fun j e => .inl e)⟩
    have fp0Y := h0.hp.cell 0
    have fp1Y := h0.hp.cell 1
    have fn0Y := h1.cell 0
    have fn1Y := h1.cell 1
    have fs0Y := h2.cell 0
    have fs1Y := h2.cell 1
    have fp0Y1 := (o1.blk h0.hp.drew (nb _ (.inr (.inr rfl)))).cell 0
    have fp1Y1 := (o1.blk h0.hp.drew (nb _ (.inr (.inr rfl)))).cell 1
    have fn0Y1 := (o1.blk h1.drew (nb _ (.inl rfl))).cell 0
    have fn1Y1 := (o1.blk h1.drew (nb _ (.inl rfl))).cell 1
    have fs0Y1 := (o1.blk h2.drew (nb _ (.inr (.inl rfl)))).cell 0
    have fs1Y1 := (o1.blk h2.drew (nb _ (.inr (.inl rfl)))).cell 1
    have fp0Y2 := (o2.blk h0.hp.drew (nb _ (.inr (.inr rfl)))).cell 0
    have fp1Y2 := (o2.blk h0.hp.drew (nb _ (.inr (.inr rfl)))).cell 1
    have fn0Y2 := (o2.blk h1.drew (nb _ (.inl rfl))).cell 0
    have fn1Y2 := (o2.blk h1.drew (nb _ (.inl rfl))).cell 1
    have fs0Y2 := (o2.blk h2.drew (nb _ (.inr (.inl rfl)))).cell 0
    have fs1Y2 := (o2.blk h2.drew (nb _ (.inr (.inl rfl)))).cell 1
    have fp0Y3 := (o3.blk h0.hp.drew (nb _ (.inr (.inr rfl)))).cell 0
    have fp1Y3 := (o3.blk h0.hp.drew (nb _ (.inr (.inr rfl)))).cell 1
    have fn0Y3 := (o3.blk h1.drew (nb _ (.inl rfl))).cell 0
    have fn1Y3 := (o3.blk h1.drew (nb _ (.inl rfl))).cell 1
    have fs0Y3 := (o3.blk h2.drew (nb _ (.inr (.inl rfl)))).cell 0
    have fs1Y3 := (o3.blk h2.drew (nb _ (.inr (.inl rfl)))).cell 1
    simp only [prL, List.getElem?_cons_zero, List.getElem?_cons_succ] at fp0Y fp1Y fn0Y fn1Y fs0Y fs1Y fp0Y1 fp1Y1 fn0Y1 fn1Y1 fs0Y1 fs1Y1 fp0Y2 fp1Y2 fn0Y2 fn1Y2 fs0Y2 fs1Y2 fp0Y3 fp1Y3 fn0Y3 fn1Y3 fs0Y3 fs1Y3
    clear h0 h1 h2 h3 h4 h5 hQ o1 o2 o3 o4 nb HY hmem
    go_region
    all_goals go_wp2
    all_goals (first | go_end0 | refine bodyPost_ret (results_none rfl _ _ _) rfl ?_)
    all_goals exact ⟨rfl, HQ.out⟩
end Go.Proofs.YtncnkpnfmbgifaaGreat

/- What one call of Count does. -/
namespace Go.Proofs.YtncnkpnfmbgifaaGreat
open Go.RowKit
set_option linter.unusedVariables false
set_option maxRecDepth 4000

theorem names_nodup {S : List Pl} (g : Good S) : (S.map (·.1)).Nodup := by
 rw [List.Nodup, List.pairwise_map]
 exact g.names
theorem names_perm {S : List Pl} (g : Good S) {xs : List Pr} (hn : xs.Nodup) (hm : ∀ x, x ∈ xs ↔ kN.ok x ∧ ∃ s, (x, s) ∈ S) : xs.Perm (S.map (·.1)) :=
 perm_of_mem hn (names_nodup g) (fun x => by
  rw [hm, List.mem_map]
  constructor
  ·rintro ⟨_, s, h⟩; exact ⟨_, h, rfl⟩
  ·rintro ⟨p, hp, rfl⟩; exact ⟨fitsN_ok (g.fits p hp).1, p.2, hp⟩)
theorem invKN (key : Value) (kl : Lit) (h : keyOf Tryz.prog 107 key = some kl) : ∃ x, key = (fun x : Pr => Value.agg #[.int .u32 x.1, .int .u64 x.2]) x := by
 obtain ⟨x, hx, _⟩ := keyN_inv h
 exact ⟨x, hx⟩
theorem invKS (key : Value) (kl : Lit) (h : keyOf Tryz.prog 112 key = some kl) : ∃ x, key = (fun x : Pr => Value.agg #[.int .i64 x.1, .int .i64 x.2]) x := by
 obtain ⟨x, hx, _⟩ := keyS_inv h
 exact ⟨x, hx⟩
theorem invV (v : Value) (y : DataW Value × List MemPlace) (h : heldR v = some y) : ∃ c, v = (fun v : Value => v) c := ⟨v, rfl⟩
theorem keyN_of {x : Pr} {kl : Lit} (h : keyOf Tryz.prog 107 (.agg #[.int .u32 x.1, .int .u64 x.2]) = some kl) : kN.ok x ∧ kl = kN.kl x := by
 obtain ⟨y, hy, h1, h2⟩ := keyN_inv h
 have : x = y := encP_inj hy
 subst this
 exact ⟨h1, h2⟩
theorem keyS_of {x : Pr} {kl : Lit} (h : keyOf Tryz.prog 112 (.agg #[.int .i64 x.1, .int .i64 x.2]) = some kl) : kS.ok x ∧ kl = kS.kl x := by
 obtain ⟨y, hy, h1, h2⟩ := keyS_inv h
 have : x = y := encP_inj hy
 subst this
 exact ⟨h1, h2⟩
end Go.Proofs.YtncnkpnfmbgifaaGreat

/- What one call of Zones does. -/
namespace Go.Proofs.YtncnkpnfmbgifaaGreat
open Go.RowKit Go.Shelf
set_option linter.unusedVariables false
set_option maxRecDepth 4000

theorem cutW_all {S : Nat} : ∀ {bs : List (List Int)}, (∀ D ∈ bs, D.length = S) → cutW S bs = bs
 | [], _ => rfl
 | D :: bs, h => by
  have ih := cutW_all (bs := bs) (fun E hE => h E (List.mem_cons_of_mem _ hE))
  have hD := h D (List.mem_cons_self ..)
  simp only [cutW] at ih ⊢
  rw [List.takeWhile_cons, hD]
  simp [ih]
theorem ZsAt.nil (O : Nat → Prop) (W : World) : ZsAt O W (.slice none 0 0) [] := ⟨[], World.ownsRow_nil W 0 120 2, (fun r h => by cases h), rfl, (fun i u z h => by simp at h), (fun i j u v r h => by simp at h), by simp⟩
theorem ZsAt.slice {O : Nat → Prop} {W : World} {v : Value} {zs : List Zn} (h : ZsAt O W v zs) : ∃ a c, v = .slice a zs.length c := by
 obtain ⟨vs, a, _⟩ := h; exact own_slice a
theorem ZsAt.under {O : Nat → Prop} {W W' : World} {v : Value} {zs : List Zn} (h : ZsAt O W v zs) (hb : Below W.heap.size W W') : ZsAt O W' v zs := h.out (below_out Non hb) (fun _ _ e => e)
theorem app_zone {O : Nat → Prop} {W0 W : World} {v u : Value} {zs : List Zn} {bs : List (List Int)} {d : Int} (h0 : ZsAt O W0 v zs) (hb0 : Below W0.heap.size W0 W) (hr : RowAt (fun x => W0.heap.size ≤ x) W u bs) (hu : u.oneCell' = true) (hl : zs.length + 1 ≤ 1000) (hmO : ∀ x, W0.heap.size ≤ x → O x) :
  ∃ a' c' w', (Builtin.append_ #[86, 86] 86 #[v, .slice (some ⟨W.heap.size, 0, none⟩) 1 1]).run Tryz.prog (W.alloc (.cells #[u, .int .i64 d] 120)) = .ok (.slice a' (zs.length + 1) c') w' ∧
   ZsAt O w' (.slice a' (zs.length + 1) c') (zs ++ [(bs, d)]) ∧ (W.alloc (.cells #[u, .int .i64 d] 120)).grownBy w' v.ownBlock := by
 obtain ⟨vs, q1, r2, r3, q4, r5, r6⟩ := h0
 have hm0 := hb0.size
 have ho0 := below_out Non hb0
 have r1 := ho0.own q1 (fun _ _ e => e)
 have r4 : ∀ (i : Nat) (u : Value) (z : Zn), vs[i]? = some u → zs[i]? = some z → RowAt O W u z.1 := fun i u z h1 h2 => (q4 i u z h1 h2).out ho0 (fun _ _ e => e) (fun _ _ _ _ e => e)
 obtain ⟨uv, u1, u2, u3, u4⟩ := id hr
 have hb : Below W.heap.size W (W.alloc (.cells #[u, .int .i64 d] 120)) := (Below.refl _ _).alloc (Nat.le_refl _) _
 have hbk : Blk (W.alloc (.cells #[u, .int .i64 d] 120)) W.heap.size [u, .int .i64 d] 120 := Blk.new' rfl rfl
 have hA := run_app (t := 86) (ty := 86) Tryz.underlying86 Tryz.zero_zone rfl (by decide) (by decide) (r1.alloc (.cells #[u, .int .i64 d] 120)) ⟨W.heap.size, 0, none⟩ 1 1 [u, .int .i64 d] rfl (by
  intro j x hj
  rw [Addr.add_mid, Nat.zero_add, hbk.cell]
  exact hj) (by intro x hx; simp at hx; rcases hx with rfl | rfl; exact hu; rfl) (by omega)
 obtain ⟨v', w', h2, h3, h4, h5⟩ := hA
 obtain ⟨a', c', rfl⟩ := own_slice h3
 have hsz := h4.size
 simp at hsz
 have hkeep : ∀ {O' : Nat → Prop} {y : Value} {cs : List (List Int)}, RowAt O' W y cs → RowAt O' w' y cs := by
  intro O' y cs hy
  have hy1 := hy.out (below_out Non hb) (fun _ _ e => e) (fun _ _ _ _ e => e)
  obtain ⟨yv, y1, _⟩ := id hy1
  refine hy1.out (grown_out h4) (fun r e1 e2 => ?_) (fun c cur _ hc e => ?_)
  ·obtain ⟨cur, hc⟩ := own_at_block y1 e1
   obtain ⟨cur', hc'⟩ := own_at_block (r1.alloc _) e2
   rw [hc] at hc'; cases hc'
  ·obtain ⟨cur', hc'⟩ := own_at_block (r1.alloc (.cells #[u, .int .i64 d] 120)) e
   rw [hc] at hc'; cases hc'
 refine ⟨a', c', w', h2, ⟨vs ++ [u], ?_, ?_, by simp [r3], fun i y z e1 e2 => ?_, fun i j y x r e1 e2 s1 s2 => ?_, by simp; omega⟩, h4⟩
 ·rw [← zcells_snoc vs zs u (bs, d) r3]; simpa using h3
 ·intro r hr
  rcases h5 with h5 | h5
  ·rw [h5] at hr; exact r2 r hr
  ·have := h5 r hr; simp at this; exact hmO r (by omega)
 ·by_cases hlt : i < zs.length
  ·rw [List.getElem?_append_left (by omega)] at e1
   rw [List.getElem?_append_left hlt] at e2
   exact hkeep (r4 i y z e1 e2)
  ·have hi : i = zs.length := by have := (List.getElem?_eq_some_iff.1 e2).1; simp at this; omega
   subst hi
   simp at e2
   rw [← r3] at e1
   simp at e1
   subst e1; subst e2
   exact (hkeep hr).mono (fun x hx _ => hmO x hx)
 ·have hnew : ∀ (i : Nat) (y : Value) (r : Nat), vs[i]? = some y → y.ownBlock = some r → u.ownBlock = some r → False := by
   intro i y r hy e1 e2
   have hlt : i < zs.length := by rw [← r3]; exact (List.getElem?_eq_some_iff.1 hy).1
   obtain ⟨_, y1, _⟩ := q4 i y zs[i] hy (by simp [hlt])
   have := (y1.lt r e1).2
   have := u2 r e2
   omega
  by_cases hi : i < vs.length
  ·rw [List.getElem?_append_left hi] at e1
   by_cases hj : j < vs.length
   ·rw [List.getElem?_append_left hj] at e2
    exact r5 i j y x r e1 e2 s1 s2
   ·have hj' : j = vs.length := by have := (List.getElem?_eq_some_iff.1 e2).1; simp at this; omega
    subst hj'
    simp at e2; subst e2
    exact (hnew i y r e1 s1 s2).elim
  ·have hi' : i = vs.length := by have := (List.getElem?_eq_some_iff.1 e1).1; simp at this; omega
   subst hi'
   simp at e1; subst e1
   by_cases hj : j < vs.length
   ·rw [List.getElem?_append_left hj] at e2
    exact (hnew j x r e2 s2 s1).elim
   ·have := (List.getElem?_eq_some_iff.1 e2).1; simp at this; omega
def ZonesE (W : World) (zs : List Zn) (e : Ending) (w' : World) : Prop := ∃ v, e = .returned v ∧ ZsAt (fun x => W.heap.size ≤ x) w' v zs ∧ Below W.heap.size W w'

section
variable {O : Nat → Prop} {W : World} {p : Nat} {s : Sh} {zs : List Zn}
set_option maxHeartbeats 4000000 in
theorem zones_of (hd : Dv 122 O W p s zs) (hw : Wf s zs) : Calls Tryz.prog 103 #[.pointer (some ⟨p, 0, none⟩)] W (ZonesE W zs) := by
 obtain ⟨g, cz, vs, hv⟩ := hd
 have c4 := hv.pcell.2.2.2.2
 have hsm := hv.small
 have hsb := power_bounds hw.right.2.2.2.2.1
 obtain ⟨S, hS⟩ : ∃ S : Nat, s.b = S := ⟨s.b.toNat, by omega⟩
 have HV : Hid (DvV 122 O W p s zs g cz vs ∧ Wf s zs ∧ s.b = S) := ⟨hv, hw, hS⟩
 obtain ⟨i0, hi, hz0, hz1, hz2⟩ := info_parts Tryz.zero_zone
 obtain ⟨w1, r1, o1, g1⟩ := run_make_own (P := Tryz.prog) W W.heap.size 86 120 i0 _ 2 Tryz.underlying86 hi hz0 hz1 .i64 .i64 zs.length (by rw [hz2]; omega) (by unfold maxLen; omega) (Nat.le_refl _)
 have hb1 : Below W.heap.size W w1 := (Below.refl _ _).grown g1 (Nat.le_refl _) (fun k e => by cases e)
 have c41 := (hb1.cell (old_block c4)).trans c4
 have HZ : Hid (ZsAt (fun x => W.heap.size ≤ x) w1 (.slice (some ⟨W.heap.size, 0, none⟩) 0 zs.length) [] ∧ Below W.heap.size W w1) := ⟨⟨[], own_zero o1, (fun r e => by cases e; exact Nat.le_refl _), rfl, (fun i u z h => by simp at h), (fun i j u v r h => by simp at h), by simp⟩, hb1⟩
 clear hv hw hi hz0 hz1 hz2 o1 g1 hb1
 generalize hN : zs.length = N at *
 go_enter Tryz.func103, Tryz.ntmps103
 go_wp2
 go_loopw [3, 17] (fun o x wr => ∃ i : Nat, x = .int .i64 i ∧ i ≤ N ∧ Below W.heap.size W wr ∧ ZsAt (fun x => W.heap.size ≤ x) wr o (zs.take i)) (fun o x wr => N - (intOf x).toNat)
 case atStart => exact ⟨0, rfl, Nat.zero_le _, HZ.out.2, by simpa using HZ.out.1⟩
 case round =>
  obtain ⟨i, rfl, hi, hb, ho⟩ := hrel
  have hl : (zs.take i).length = i := by simp; omega
  obtain ⟨oa, oc, hoe⟩ := ho.slice
  rw [hl] at hoe
  subst hoe
  rcases Nat.lt_or_ge i N with hlt | hge
  ·obtain ⟨z, hz⟩ : ∃ z, zs[i]? = some z := ⟨zs[i]'(by omega), by simp⟩
   obtain ⟨q, hq⟩ : ∃ q, q = wr.heap.size := ⟨_, rfl⟩
   obtain ⟨ua, uc, hu, hr, z0, z1⟩ := (HV.out.1.under hb).at hz
   have hi' : (i : Int) < (N : Int) := by omega
   have hw1 : IntKind.i64.wrap ((i : Int) + 1) = (i : Int) + 1 := by rw [IntKind.wrap_i64]; omega
   have HI : Hid (zs[i]? = some z ∧ Below W.heap.size W wr ∧ ZsAt (fun x => W.heap.size ≤ x) wr (.slice oa i oc) (zs.take i) ∧ q = wr.heap.size ∧ vs[i]? = some (.slice ua z.1.length uc)) := ⟨hz, hb, ho, hq, hu⟩
   have hX : Blk (wr.alloc (.cells #[.slice ua z.1.length uc, .int .i64 z.2] 120)) q [.slice ua z.1.length uc, .int .i64 z.2] 120 := Blk.new' hq.symm rfl
   have HX : Hid (Blk (wr.alloc (.cells #[.slice ua z.1.length uc, .int .i64 z.2] 120)) q [.slice ua z.1.length uc, .int .i64 z.2] 120 ∧ Below wr.heap.size wr (wr.alloc (.cells #[.slice ua z.1.length uc, .int .i64 z.2] 120))) := ⟨hX, (Below.refl _ _).alloc (Nat.le_refl _) _⟩
   clear hX hz hb ho hr hu c4 c41
   go_upto_region 5 with fail
   rw [← hq]
   generalize hVV : World.alloc _ _ = V at HX ⊢
   clear hVV hq z0 z1
   have hvV := HV.out.1.under (HI.out.2.1.trans (HX.out.2.mono HI.out.2.1.size))
   have p2 := hvV.pcell.2.2.1
   rw [HV.out.2.2] at p2
   have x0 : V.cell? ⟨q, 0, none⟩ = some (.slice ua z.1.length uc) := HX.out.1.cell 0
   have x1 : V.cell? ⟨q, 1, none⟩ = some (.int .i64 z.2) := HX.out.1.cell 1
   have hcw : cutW S z.1 = z.1 := cutW_all (fun D hD => by have := (HV.out.2.1.zone z (List.mem_of_getElem? HI.out.1)).2.2.2 D hD; have := HV.out.2.2; omega)
   have HC : Hid (Calls Tryz.prog 150 #[.agg #[.slice ua z.1.length uc, .int .i64 z.2], .int .i64 S] V.drew (Copied V.drew z.1 S z.2)) := copied_of ua z.1.length uc S z.2 z.1 V.drew (((hvV.rows i _ z HI.out.2.2.2.2 HI.out.1).bsin (HV.out.2.1.short z (List.mem_of_getElem? HI.out.1))).below (Below.refl _ _).drew) (by omega) (by omega)
   have HA : Hid (∀ w3 va vc, RowAt (fun x => V.heap.size ≤ x) w3 (.slice va z.1.length vc) z.1 → Below V.heap.size V w3 → ∃ a' c' w', (Builtin.append_ #[86, 86] 86 #[.slice oa i oc, .slice (some ⟨w3.heap.size, 0, none⟩) 1 1]).run Tryz.prog (w3.alloc (.cells #[.slice va z.1.length vc, .int .i64 z.2] 120)) = .ok (.slice a' (i + 1) c') w' ∧ ZsAt (fun x => W.heap.size ≤ x) w' (.slice a' (i + 1) c') (zs.take (i + 1)) ∧ Below W.heap.size W w') := by
    intro w3 va vc h1 h2
    have hbV := HI.out.2.1.trans (HX.out.2.mono HI.out.2.1.size)
    have := app_zone (d := z.2) (HI.out.2.2.1.under HX.out.2) h2 h1 rfl (by rw [hl]; omega) (fun x hx => by have := hbV.size; omega)
    rw [hl] at this
    obtain ⟨a', c', w', e1, e2, e3⟩ := this
    refine ⟨a', c', w', e1, by rw [take_snoc HI.out.1]; exact e2, ?_⟩
    have hsz := h2.size
    have hsz2 := hbV.size
    refine ((hbV.trans (h2.mono hsz2)).alloc (by omega) _).grown e3 (by simp; omega) (fun k e => ?_)
    obtain ⟨vs9, q1, q2, _⟩ := HI.out.2.2.1
    exact q2 k e
   have HW : Hid (cutW S z.1 = z.1) := hcw
   clear hvV hcw
   refine wp_region_noPanic ?_
   go_region_law (first
    | (go_simp; go_at_call 150; refine HC.out.mono ?_; rintro e w3 ⟨v3, rfl, r3, b3⟩; rw [HW.out] at r3; obtain ⟨va, vc, hv3⟩ := r3.slice; subst hv3; obtain ⟨a9, c9, w9, e9, z9, b9⟩ := HA.out w3 va vc r3 ⟨b3.os, b3.tape, b3.output, b3.size, b3.block⟩)
    | (refine step_append_run rfl (.tmp 21) (.tmp 29) 86 86 rfl _ _ rfl rfl _ _ e9 ?_))
   all_goals
    have HF : Hid (ZsAt (fun x => W.heap.size ≤ x) w9 (.slice a9 (i + 1) c9) (zs.take (i + 1)) ∧ Below W.heap.size W w9) := ⟨z9, b9⟩
    clear e9 z9 b9 r3 b3 x0 x1 p2
    refine NoPanic.normal ?_
    go_wp2
    go_roundw
    case rel => exact ⟨i + 1, by simp, by omega, HF.out.2, HF.out.1⟩
    case measure => simp [intOf]; omega
  ·obtain rfl : i = N := by omega
   have HS : Hid (ZsAt (fun x => W.heap.size ≤ x) wr (.slice oa i oc) zs ∧ Below W.heap.size W wr) := ⟨by rw [List.take_of_length_le (by omega)] at ho; exact ho, hb⟩
   clear hb ho c4 c41
   go_wp2
   go_ret
   exact ⟨_, rfl, HS.out.1, HS.out.2⟩
end
end Go.Proofs.YtncnkpnfmbgifaaGreat
