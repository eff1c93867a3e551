/- P32 -/
import Derived.Shelf.SlSortCmp.WholeK
import Derived.Test.YtcdnjeiamihhbabGreatP31
set_option linter.unusedVariables false
set_option maxRecDepth 4000
namespace Go.Proofs.YtcdnjeiamihhbabGreat
open Go.RowKit
def Two (b1 b2 : Nat) : Nat → Prop := fun k => k = b1 ∨ k = b2
/-- Both maps without a block, in two steps. -/
theorem LmP.drop1 {w : World} {p b1 b2 : Nat} {S : List Pl} {c : Nat} (h : LmP w p b1 b2 S c) {n s : Pr} (hn : FitsN n) (hg : getS S n = some s) (ty : TypeId) :
  ∃ w1, (Builtin.delete_ #[175, 180] ty #[.map (some b1), .agg #[.int .u32 n.1, .int .u64 n.2]]).run Tryz.prog w = .ok (.tuple #[]) w1 ∧ Out (Two b1 b2) w w1 ∧ w1.heap.size = w.heap.size ∧ Blk w1 p [.map (some b1), .map (some b2)] 178 ∧
   ∀ w1' : World, (∀ k, k = p ∨ k = b1 ∨ k = b2 → w1'.heap[k]? = w1.heap[k]?) → ∀ ty', ∃ w2, (Builtin.delete_ #[176, 185] ty' #[.map (some b2), .agg #[.int .i64 s.1, .int .i64 s.2]]).run Tryz.prog w1' = .ok (.tuple #[]) w2 ∧ LmP w2 p b1 b2 (dropS S n) c ∧ Out (Two b1 b2) w1' w2 := by
 have hm := (getS_some h.good).1 hg
 have hs : FitsS s := (h.good.fits _ hm).2
 obtain ⟨w1, hr, k1, k2⟩ := h.m1.drop okN (fitsN_ok hn) ty
 have o1 := turned_out k2
 have hp1 : Blk w1 p [.map (some b1), .map (some b2)] 178 := o1.blk h.hp (h.m1.no_blk h.hp)
 have m2' : MapIs kS w1 b2 c (fun s n => (n, s) ∈ S) := h.m2.same (o1.block b2 h.m2.lt (fun e => h.ne e.symm))
 refine ⟨w1, hr, o1.mono (fun j e _ => .inl e), turned_size k2, hp1, fun w1' hs1 ty' => ?_⟩
 have hp1' : Blk w1' p [.map (some b1), .map (some b2)] 178 := by unfold Blk; rw [hs1 p (.inl rfl)]; exact hp1
 have m1' := k1.same (hs1 b1 (.inr (.inl rfl)))
 have m2'' := m2'.same (hs1 b2 (.inr (.inr rfl)))
 obtain ⟨w2, hr2, j1, j2⟩ := m2''.drop okS (fitsS_ok hs) ty'
 have o2 := turned_out j2
 refine ⟨w2, hr2, ⟨o2.blk hp1' (m2''.no_blk hp1'), (m1'.same (o2.block b1 m1'.lt h.ne)).congr (fun x y _ => ?_), j1.congr (fun x y _ => ?_), h.ne, h.good.drop n⟩, o2.mono (fun j e _ => .inr e)⟩
 ·rw [mem_dropS]
 ·rw [mem_dropS]
  constructor
  ·rintro ⟨h1, h2⟩
   refine ⟨h1, fun e => h2 ?_⟩
   have := h.good.one_name h1 hm e
   exact (congrArg Prod.snd this)
  ·rintro ⟨h1, h2⟩
   refine ⟨h1, fun e => h2 ?_⟩
   have := h.good.one_spot h1 hm e
   exact (congrArg Prod.fst this)
theorem mForget_of (p b1 b2 : Nat) (S : List Pl) (c : Nat) (n : Pr) (w : World) (h : LmP w p b1 b2 S c) (hn : FitsN n) :
  Calls Tryz.prog 104 #[.pointer (some ⟨p, 0, none⟩), .agg #[.int .u32 n.1, .int .u64 n.2]] w fun e w' => e = .returned (.bool (getS S n).isSome) ∧ LmP w' p b1 b2 (dropS S n) c ∧ Out (Two b1 b2) w w' := by
 have hh := h.alloc (.cells #[.int .u32 n.1, .int .u64 n.2] 180)
 have c0 := hh.hp.cell 0
 have hl := hh.drew.lookN hn
 have hh2 := hh.alloc (.cells #[.int .i64 0, .int .i64 0] 185)
 have d0 := hh2.hp.cell 0
 have hl2 := hh2.drew.lookN hn
 simp only [List.getElem?_cons_zero] at c0 d0
 cases ho : getS S n with
 | none =>
  simp only [ho, Option.getD_none, Option.isSome_none] at hl hl2
  have H : Hid (LmP ((w.alloc (.cells #[.int .u32 n.1, .int .u64 n.2] 180)).alloc (.cells #[.int .i64 0, .int .i64 0] 185)).drew p b1 b2 (dropS S n) c ∧ Out (Two b1 b2) w ((w.alloc (.cells #[.int .u32 n.1, .int .u64 n.2] 180)).alloc (.cells #[.int .i64 0, .int .i64 0] 185)).drew) :=
   ⟨by rw [drop_none ho]; exact hh2.drew, (((Out.refl _ _).alloc _).alloc _).drew⟩
  clear hh hh2 ho h
  go_enter Tryz.func104, Tryz.ntmps104
  go_wp2
  go_region
  all_goals go_wp2
  all_goals go_ret
  all_goals exact ⟨rfl, H.out⟩
 | some s =>
  simp only [ho, Option.getD_some, Option.isSome_some] at hl hl2
  have hV : LmP ((w.alloc (.cells #[.int .u32 n.1, .int .u64 n.2] 180)).alloc (.cells #[.int .i64 s.1, .int .i64 s.2] 185)).drew p b1 b2 S c := (hh.alloc _).drew
  have oV : Out (Two b1 b2) w ((w.alloc (.cells #[.int .u32 n.1, .int .u64 n.2] 180)).alloc (.cells #[.int .i64 s.1, .int .i64 s.2] 185)).drew := (((Out.refl _ _).alloc _).alloc _).drew
  have bN : Blk ((w.alloc (.cells #[.int .u32 n.1, .int .u64 n.2] 180)).alloc (.cells #[.int .i64 s.1, .int .i64 s.2] 185)).drew w.heap.size (prL .u32 .u64 n) 180 := ((Blk.new' rfl rfl).alloc _).drew
  have bS : Blk ((w.alloc (.cells #[.int .u32 n.1, .int .u64 n.2] 180)).alloc (.cells #[.int .i64 s.1, .int .i64 s.2] 185)).drew (w.heap.size + 1) (prL .i64 .i64 s) 185 := (Blk.new' (by simp) rfl).drew
  have H : Hid (LmP ((w.alloc (.cells #[.int .u32 n.1, .int .u64 n.2] 180)).alloc (.cells #[.int .i64 s.1, .int .i64 s.2] 185)).drew p b1 b2 S c ∧ Out (Two b1 b2) w ((w.alloc (.cells #[.int .u32 n.1, .int .u64 n.2] 180)).alloc (.cells #[.int .i64 s.1, .int .i64 s.2] 185)).drew ∧ Blk ((w.alloc (.cells #[.int .u32 n.1, .int .u64 n.2] 180)).alloc (.cells #[.int .i64 s.1, .int .i64 s.2] 185)).drew w.heap.size (prL .u32 .u64 n) 180 ∧ Blk ((w.alloc (.cells #[.int .u32 n.1, .int .u64 n.2] 180)).alloc (.cells #[.int .i64 s.1, .int .i64 s.2] 185)).drew (w.heap.size + 1) (prL .i64 .i64 s) 185 ∧ getS S n = some s) := ⟨hV, oV, bN, bS, ho⟩
  clear hh hh2 h hV oV bN bS ho
  go_enter Tryz.func104, Tryz.ntmps104
  go_wp2
  go_region
  all_goals go_wp2_with fail
  all_goals generalize ((w.alloc (.cells #[.int .u32 n.1, .int .u64 n.2] 180)).alloc (.cells #[.int .i64 s.1, .int .i64 s.2] 185)).drew = V at H ⊢
  all_goals clear hl hl2 c0 d0
  all_goals obtain ⟨hV, oV, bN, bS, ho⟩ := H.out
  all_goals clear H
  all_goals obtain ⟨W, hd1, oW, sW, pW, next⟩ := hV.drew.drop1 hn ho 0
  all_goals have c0 := hV.hp.cell 0
  all_goals have n0 := bN.cell 0
  all_goals have n1 := bN.cell 1
  all_goals simp only [prL, List.getElem?_cons_zero, List.getElem?_cons_succ] at c0 n0 n1
  all_goals go_region
  all_goals go_wp2_with fail
  all_goals have bS2 : Blk W (w.heap.size + 1) (prL .i64 .i64 s) 185 := oW.blk bS.drew (fun e => by rcases e with e | e; exact hV.m1.no_blk bS e; exact hV.m2.no_blk bS e)
  all_goals obtain ⟨Z, hd2, hZ, oZ⟩ := next W.drew (fun _ _ => rfl) 0
  all_goals have c1 := pW.cell 1
  all_goals have s0 := bS2.cell 0
  all_goals have s1 := bS2.cell 1
  all_goals have HZ : Hid (LmP Z p b1 b2 (dropS S n) c ∧ Out (Two b1 b2) w Z) := ⟨hZ, ((oV.drew).trans oW (fun j e => .inl e)).drew.trans oZ (fun j e => .inl e)⟩
  all_goals simp only [prL, List.getElem?_cons_zero, List.getElem?_cons_succ] at c1 s0 s1
  all_goals clear hV oV bN bS ho hd1 oW sW pW next c0 n0 n1 bS2 hZ oZ
  all_goals go_region
  all_goals go_wp2
  all_goals go_ret
  all_goals exact ⟨rfl, HZ.out⟩
theorem mDrop_of (p b1 b2 : Nat) (S : List Pl) (c : Nat) (n : Pr) (w : World) (h : LmP w p b1 b2 S c) (hn : FitsN n) :
  Calls Tryz.prog 72 #[.pointer (some ⟨p, 0, none⟩), .int .u32 n.1, .int .u64 n.2] w fun e w' => e = .returned (.bool (getS S n).isSome) ∧ LmP w' p b1 b2 (dropS S n) c ∧ Out (Two b1 b2) w w' := by
 have C := mForget_of p b1 b2 S c n w h hn
 clear h hn
 go_enter Tryz.func72, Tryz.ntmps72
 go_wp2_with fail
 refine C.mono ?_
 rintro e w' ⟨rfl, hx⟩
 have H : Hid (LmP w' p b1 b2 (dropS S n) c ∧ Out (Two b1 b2) w w') := hx
 clear hx C
 go_wp2
 go_ret
 exact ⟨rfl, H.out⟩
/-- A place's map behind the two writes. -/
theorem LmP.put1 {w : World} {p b1 b2 : Nat} {S : List Pl} {c : Nat} (h : LmP w p b1 b2 S c) {x : Pl} (hx : FitsP x) (hc : c < 100000) (h1 : getS S x.1 = none) (h2 : atS S x.2 = none) (S' : List Pl) (gS : Good S') (hS' : ∀ q, q ∈ S' ↔ q = x ∨ q ∈ S) :
  ∃ (v1 v2 : Value) (s1 s2 : Nat) (w1 w2 w3 w4 : World), (Instr.mapEntry 175 (.map (some b1)) (.agg #[.int .u32 x.1.1, .int .u64 x.1.2])).run Tryz.prog w = .ok (.tuple #[v1, Value.int .i64 (s1 : Int)]) w1 ∧
   (Instr.entryStore 175 (.map (some b1)) (.int .i64 (s1 : Int)) (.agg #[.int .i64 x.2.1, .int .i64 x.2.2])).run Tryz.prog w1 = .ok () w2 ∧
   (Instr.mapEntry 176 (.map (some b2)) (.agg #[.int .i64 x.2.1, .int .i64 x.2.2])).run Tryz.prog w2 = .ok (.tuple #[v2, Value.int .i64 (s2 : Int)]) w3 ∧
   (Instr.entryStore 176 (.map (some b2)) (.int .i64 (s2 : Int)) (.agg #[.int .u32 x.1.1, .int .u64 x.1.2])).run Tryz.prog w3 = .ok () w4 ∧
   LmP w4 p b1 b2 S' (c + 1) ∧ Out (Two b1 b2) w w1 ∧ Out (Two b1 b2) w w2 ∧ Out (Two b1 b2) w w3 ∧ Out (Two b1 b2) w w4 := by
 obtain ⟨v1, s1, w1, w2, e1, e2, k1, t1, t2⟩ := h.m1.entry okN (fitsN_ok hx.1) x.2 (by omega)
 have o2 := turned_out t2
 have hp2 : Blk w2 p [.map (some b1), .map (some b2)] 178 := o2.blk h.hp (h.m1.no_blk h.hp)
 have m2' : MapIs kS w2 b2 c (fun s n => (n, s) ∈ S) := h.m2.same (o2.block b2 h.m2.lt (fun e => h.ne e.symm))
 obtain ⟨v2, s2, w3, w4, e3, e4, k2, t3, t4⟩ := m2'.entry okS (fitsS_ok hx.2) x.1 (by omega)
 have o4 := turned_out t4
 refine ⟨v1, v2, s1, s2, w1, w2, w3, w4, e1, e2, e3, e4, ⟨o4.blk hp2 (m2'.no_blk hp2), (k1.same (o4.block b1 k1.lt h.ne)).congr (fun n s _ => ?_), k2.congr (fun s n _ => ?_), h.ne, gS⟩, (turned_out t1).mono (fun j e _ => .inl e), o2.mono (fun j e _ => .inl e), (o2.mono (fun j e _ => .inl e)).trans ((turned_out t3).mono (O' := Two b1 b2) (fun j e _ => .inr e)) (fun j e => .inl e), (o2.mono (fun j e _ => .inl e)).trans (o4.mono (O' := Two b1 b2) (fun j e _ => .inr e)) (fun j e => .inl e)⟩
 ·rw [hS']
  constructor
  ·rintro (⟨rfl, rfl⟩ | ⟨_, hm⟩)
   ·exact .inl rfl
   ·exact .inr hm
  ·rintro (e | hm)
   ·exact .inl ⟨congrArg Prod.fst e, congrArg Prod.snd e⟩
   ·refine .inr ⟨fun e => ?_, hm⟩
    exact getS_none.1 h1 s (by rw [← e]; exact hm)
 ·rw [hS']
  constructor
  ·rintro (⟨rfl, rfl⟩ | ⟨_, hm⟩)
   ·exact .inl rfl
   ·exact .inr hm
  ·rintro (e | hm)
   ·exact .inl ⟨congrArg Prod.snd e, congrArg Prod.fst e⟩
   ·refine .inr ⟨fun e => ?_, hm⟩
    exact atS_none.1 h2 n (by rw [← e]; exact hm)
theorem put_mem {S : List Pl} (g : Good S) (x : Pl) {n : Pr} (ha : atS (dropS S x.1) x.2 = some n) (q : Pl) : q ∈ putS S x ↔ q = x ∨ q ∈ dropS (dropS S x.1) n := by
 have hm := (atS_some (g.drop x.1)).1 ha
 rw [mem_putS g, mem_dropS, mem_dropS]
 constructor
 ·rintro (h | ⟨h1, h2, h3⟩)
  ·exact .inl h
  ·refine .inr ⟨⟨h1, h2⟩, fun e => h3 ?_⟩
   have := g.one_name h1 (mem_dropS.1 hm).1 e
   rw [this]
 ·rintro (h | ⟨⟨h1, h2⟩, h3⟩)
  ·exact .inl h
  ·refine .inr ⟨h1, h2, fun e => h3 ?_⟩
   have := g.one_spot h1 (mem_dropS.1 hm).1 e
   rw [this]
theorem put_mem0 {S : List Pl} (g : Good S) (x : Pl) (ha : atS (dropS S x.1) x.2 = none) (q : Pl) : q ∈ putS S x ↔ q = x ∨ q ∈ dropS S x.1 := by
 rw [mem_putS g, mem_dropS]
 constructor
 ·rintro (h | ⟨h1, h2, h3⟩)
  ·exact .inl h
  ·exact .inr ⟨h1, h2⟩
 ·rintro (h | ⟨h1, h2⟩)
  ·exact .inl h
  ·exact .inr ⟨h1, h2, fun e => atS_none.1 ha q.1 (mem_dropS.2 ⟨by rw [← e]; exact h1, h2⟩)⟩
theorem get_drop (S : List Pl) (n : Pr) : getS (dropS S n) n = none := getS_none.2 (fun s h => (mem_dropS.1 h).2 rfl)
theorem get_drop2 (S : List Pl) (n m : Pr) : getS (dropS (dropS S n) m) n = none := getS_none.2 (fun s h => (mem_dropS.1 (mem_dropS.1 h).1).2 rfl)
theorem at_drop2 {S : List Pl} (g : Good S) {x : Pr} {m : Pr} (h : atS S x = some m) : atS (dropS S m) x = none := atS_none.2 (fun n hm => (mem_dropS.1 hm).2 (by
 have := g.one_spot (mem_dropS.1 hm).1 ((atS_some g).1 h) rfl
 exact congrArg Prod.fst this))
def PutA (w : World) (p b1 b2 : Nat) (S : List Pl) (c : Nat) (x : Pl) (g1 g2 : Nat) (wr : World) : Prop :=
 LmP wr p b1 b2 S c ∧ Blk wr g1 (prL .u32 .u64 x.1) 180 ∧ Blk wr g2 (prL .i64 .i64 x.2) 185 ∧ w.heap.size ≤ g1 ∧ w.heap.size ≤ g2 ∧ Out (Two b1 b2) w wr
set_option maxHeartbeats 4000000 in
theorem mPut_of (p b1 b2 : Nat) (S : List Pl) (c : Nat) (x : Pl) (w : World) (h : LmP w p b1 b2 S c) (hx : FitsP x) (hc : c < 100000) :
  Calls Tryz.prog 66 #[.pointer (some ⟨p, 0, none⟩), .agg #[.int .u32 x.1.1, .int .u64 x.1.2, .int .i64 x.2.1, .int .i64 x.2.2]] w fun e w' => e = .returned (.tuple #[]) ∧ LmP w' p b1 b2 (putS S x) (c + 1) ∧ Out (Two b1 b2) w w' := by
 have H : Hid (LmP w p b1 b2 S c) := h
 clear h
 go_enter Tryz.func66, Tryz.ntmps66
 go_wp2
 go_cut [4, 5] (fun s4 s5 wr => ∃ g1 g2, s4 = .pointer (some ⟨g1, 0, none⟩) ∧ s5 = .pointer (some ⟨g2, 0, none⟩) ∧ PutA w p b1 b2 S c x g1 g2 wr)
 case first =>
  go_region
  all_goals go_wp2_with fail
  all_goals go_meet
  all_goals first
   | (refine ⟨w.heap.size + 1 + 1, w.heap.size + 1, rfl, rfl, (((H.out.alloc _).alloc _).alloc _).drew, (Blk.new' (by simp) rfl).drew, ((Blk.new' (by simp) rfl).alloc _).drew, by omega, by omega, ((((Out.refl _ _).alloc _).alloc _).alloc _).drew⟩; done)
   | (refine ⟨w.heap.size + 1, w.heap.size + 1 + 1, rfl, rfl, (((H.out.alloc _).alloc _).alloc _).drew, ((Blk.new' (by simp) rfl).alloc _).drew, (Blk.new' (by simp) rfl).drew, by omega, by omega, ((((Out.refl _ _).alloc _).alloc _).alloc _).drew⟩; done)
 case rest =>
  obtain ⟨g1, g2, rfl, rfl, hA⟩ := hcut
  clear H
  have C := mForget_of p b1 b2 S c x.1 wc hA.1 hx.1
  have n0 := hA.2.1.cell 0
  have n1 := hA.2.1.cell 1
  simp only [prL, List.getElem?_cons_zero, List.getElem?_cons_succ] at n0 n1
  have HA : Hid (PutA w p b1 b2 S c x g1 g2 wc) := hA
  clear hA
  go_wp2_with fail
  refine C.mono ?_
  rintro e V ⟨rfl, hV, oV⟩
  have aV : PutA w p b1 b2 (dropS S x.1) c x g1 g2 V := by
   obtain ⟨h0, h1, h2, h3, h4, h5⟩ := HA.out
   refine ⟨hV, oV.blk h1 ?_, oV.blk h2 ?_, h3, h4, h5.trans oV (fun j e => .inl e)⟩
   ·rintro (e | e)
    ·exact h0.m1.no_blk h1 e
    ·exact h0.m2.no_blk h1 e
   ·rintro (e | e)
    ·exact h0.m1.no_blk h2 e
    ·exact h0.m2.no_blk h2 e
  have HS : Hid (Good S) := HA.out.1.good
  clear HA C n0 n1 hV oV
  have hl := aV.1.drew.lookS hx.2
  have c1 := aV.1.hp.cell 1
  have hl2 := (aV.1.alloc (.cells #[.int .u32 0, .int .u64 0] 180)).drew.lookS hx.2
  have d1 := (aV.1.alloc (.cells #[.int .u32 0, .int .u64 0] 180)).hp.cell 1
  have s0 := aV.2.2.1.cell 0
  have s1 := aV.2.2.1.cell 1
  have s0' := (aV.2.2.1.alloc (.cells #[.int .u32 0, .int .u64 0] 180)).cell 0
  have s1' := (aV.2.2.1.alloc (.cells #[.int .u32 0, .int .u64 0] 180)).cell 1
  simp only [prL, List.getElem?_cons_zero, List.getElem?_cons_succ] at c1 d1 s0 s1 s0' s1'
  have HV : Hid (PutA w p b1 b2 (dropS S x.1) c x g1 g2 V) := aV
  clear aV
  go_wp2_with fail
  cases ho : atS (dropS S x.1) x.2 with
  | none =>
   simp only [ho, Option.getD_none, Option.isSome_none] at hl hl2
   go_cut [6, 7] (fun s6 s7 wr => s6 = .pointer (some ⟨V.heap.size, 0, none⟩) ∧ s7 = .bool false ∧ wr = (V.alloc (.cells #[.int .u32 0, .int .u64 0] 180)).drew)
   case first =>
    clear ho
    go_region
    all_goals go_wp2_with fail
    all_goals go_meet
    all_goals exact ⟨rfl, rfl, rfl⟩
   case rest =>
    obtain ⟨rfl, rfl, rfl⟩ := hcut
    obtain ⟨h0, h1, h2, h3, h4, h5⟩ := HV.out
    have HY : Hid (PutA w p b1 b2 (dropS S x.1) c x g1 g2 (V.alloc (.cells #[.int .u32 0, .int .u64 0] 180)).drew) := ⟨(h0.alloc _).drew, (h1.alloc _).drew, (h2.alloc _).drew, h3, h4, (h5.alloc _).drew⟩
    have hg0 := get_drop S x.1
    have ha0 := ho
    have hmem := put_mem0 HS.out x ho
    clear h0 h1 h2 h3 h4 h5 ho hl hl2 c1 d1 s0 s1 s0' s1' HV
    generalize (V.alloc (.cells #[.int .u32 0, .int .u64 0] 180)).drew = Y at HY ⊢
    go_wp2_with fail
    obtain ⟨h0, h1, h2, h3, h4, h5⟩ := HY.out
    obtain ⟨v1, v2, k1, k2, Y1, Y2, Y3, Y4, e1, e2, e3, e4, hQ, o1, o2, o3, o4⟩ := h0.drew.put1 hx hc hg0 ha0 (putS S x) (HS.out.put hx) hmem
    have nb : ∀ g, g = g1 ∨ g = g2 ∨ g = p → ¬ Two b1 b2 g := by
     rintro g (rfl | rfl | rfl) (e | e)
     ·exact h0.m1.no_blk h1 e
     ·exact h0.m2.no_blk h1 e
     ·exact h0.m1.no_blk h2 e
     ·exact h0.m2.no_blk h2 e
     ·exact h0.m1.no_blk h0.hp e
     ·exact h0.m2.no_blk h0.hp e
    have HQ : Hid (LmP Y4 p b1 b2 (putS S x) (c + 1) ∧ Out (Two b1 b2) w Y4) := ⟨hQ, h5.drew.trans o4 (fun j e => .inl e)⟩
    have fp0Y := h0.hp.cell 0
    have fp1Y := h0.hp.cell 1
    have fn0Y := h1.cell 0
    have fn1Y := h1.cell 1
    have fs0Y := h2.cell 0
    have fs1Y := h2.cell 1
    have fp0Y1 := (o1.blk h0.hp.drew (nb _ (.inr (.inr rfl)))).cell 0
    have fp1Y1 := (o1.blk h0.hp.drew (nb _ (.inr (.inr rfl)))).cell 1
    have fn0Y1 := (o1.blk h1.drew (nb _ (.inl rfl))).cell 0
    have fn1Y1 := (o1.blk h1.drew (nb _ (.inl rfl))).cell 1
    have fs0Y1 := (o1.blk h2.drew (nb _ (.inr (.inl rfl)))).cell 0
    have fs1Y1 := (o1.blk h2.drew (nb _ (.inr (.inl rfl)))).cell 1
    have fp0Y2 := (o2.blk h0.hp.drew (nb _ (.inr (.inr rfl)))).cell 0
    have fp1Y2 := (o2.blk h0.hp.drew (nb _ (.inr (.inr rfl)))).cell 1
    have fn0Y2 := (o2.blk h1.drew (nb _ (.inl rfl))).cell 0
    have fn1Y2 := (o2.blk h1.drew (nb _ (.inl rfl))).cell 1
    have fs0Y2 := (o2.blk h2.drew (nb _ (.inr (.inl rfl)))).cell 0
    have fs1Y2 := (o2.blk h2.drew (nb _ (.inr (.inl rfl)))).cell 1
    have fp0Y3 := (o3.blk h0.hp.drew (nb _ (.inr (.inr rfl)))).cell 0
    have fp1Y3 := (o3.blk h0.hp.drew (nb _ (.inr (.inr rfl)))).cell 1
    have fn0Y3 := (o3.blk h1.drew (nb _ (.inl rfl))).cell 0
    have fn1Y3 := (o3.blk h1.drew (nb _ (.inl rfl))).cell 1
    have fs0Y3 := (o3.blk h2.drew (nb _ (.inr (.inl rfl)))).cell 0
    have fs1Y3 := (o3.blk h2.drew (nb _ (.inr (.inl rfl)))).cell 1
    simp only [prL, List.getElem?_cons_zero, List.getElem?_cons_succ] at fp0Y fp1Y fn0Y fn1Y fs0Y fs1Y fp0Y1 fp1Y1 fn0Y1 fn1Y1 fs0Y1 fs1Y1 fp0Y2 fp1Y2 fn0Y2 fn1Y2 fs0Y2 fs1Y2 fp0Y3 fp1Y3 fn0Y3 fn1Y3 fs0Y3 fs1Y3
    clear h0 h1 h2 h3 h4 h5 hQ o1 o2 o3 o4 nb HY hmem
    go_region
    all_goals go_wp2
    all_goals (first | go_end0 | refine bodyPost_ret (results_none rfl _ _ _) rfl ?_)
    all_goals exact ⟨rfl, HQ.out⟩
  | some m =>
   simp only [ho, Option.getD_some, Option.isSome_some] at hl hl2
   go_cut [6, 7] (fun s6 s7 wr => s6 = .pointer (some ⟨V.heap.size, 0, none⟩) ∧ s7 = .bool true ∧ wr = (V.alloc (.cells #[.int .u32 m.1, .int .u64 m.2] 180)).drew)
   case first =>
    clear ho
    go_region
    all_goals go_wp2_with fail
    all_goals go_meet
    all_goals exact ⟨rfl, rfl, rfl⟩
   case rest =>
    obtain ⟨rfl, rfl, rfl⟩ := hcut
    have hm : FitsN m := (HV.out.1.good.fits _ ((atS_some HV.out.1.good).1 ho)).1
    have C := mForget_of p b1 b2 (dropS S x.1) c m ((V.alloc (.cells #[.int .u32 m.1, .int .u64 m.2] 180)).drew) (HV.out.1.alloc _).drew hm
    have HO : Hid (atS (dropS S x.1) x.2 = some m) := ho
    clear hl hl2 c1 d1 s0 s1 s0' s1' ho
    go_wp2_with fail
    refine C.mono ?_
    rintro e Y ⟨rfl, hZ, oZ⟩
    obtain ⟨h0, h1, h2, h3, h4, h5⟩ := HV.out
    have HY : Hid (PutA w p b1 b2 (dropS (dropS S x.1) m) c x g1 g2 Y) := by
     refine ⟨hZ, oZ.blk (h1.alloc _).drew ?_, oZ.blk (h2.alloc _).drew ?_, h3, h4, (h5.alloc _).drew.trans oZ (fun j e => .inl e)⟩
     ·rintro (e | e)
      ·exact h0.m1.no_blk h1 e
      ·exact h0.m2.no_blk h1 e
     ·rintro (e | e)
      ·exact h0.m1.no_blk h2 e
      ·exact h0.m2.no_blk h2 e
    have hg0 := get_drop2 S x.1 m
    have ha0 := at_drop2 h0.good HO.out
    have hmem := put_mem HS.out x HO.out
    clear h0 h1 h2 h3 h4 h5 hZ oZ HV C HO
    go_wp2_with fail
    obtain ⟨h0, h1, h2, h3, h4, h5⟩ := HY.out
    obtain ⟨v1, v2, k1, k2, Y1, Y2, Y3, Y4, e1, e2, e3, e4, hQ, o1, o2, o3, o4⟩ := h0.drew.put1 hx hc hg0 ha0 (putS S x) (HS.out.put hx) hmem
    have nb : ∀ g, g = g1 ∨ g = g2 ∨ g = p → ¬ Two b1 b2 g := by
     rintro g (rfl | rfl | rfl) (e | e)
     ·exact h0.m1.no_blk h1 e
     ·exact h0.m2.no_blk h1 e
     ·exact h0.m1.no_blk h2 e
     ·exact h0.m2.no_blk h2 e
     ·exact h0.m1.no_blk h0.hp e
     ·exact h0.m2.no_blk h0.hp e
    have HQ : Hid (LmP Y4 p b1 b2 (putS S x) (c + 1) ∧ Out (Two b1 b2) w Y4) := ⟨hQ, h5.drew.trans o4 (fun j e => .inl e)⟩
    have fp0Y := h0.hp.cell 0
    have fp1Y := h0.hp.cell 1
    have fn0Y := h1.cell 0
    have fn1Y := h1.cell 1
    have fs0Y := h2.cell 0
    have fs1Y := h2.cell 1
    have fp0Y1 := (o1.blk h0.hp.drew (nb _ (.inr (.inr rfl)))).cell 0
    have fp1Y1 := (o1.blk h0.hp.drew (nb _ (.inr (.inr rfl)))).cell 1
    have fn0Y1 := (o1.blk h1.drew (nb _ (.inl rfl))).cell 0
    have fn1Y1 := (o1.blk h1.drew (nb _ (.inl rfl))).cell 1
    have fs0Y1 := (o1.blk h2.drew (nb _ (.inr (.inl rfl)))).cell 0
    have fs1Y1 := (o1.blk h2.drew (nb _ (.inr (.inl rfl)))).cell 1
    have fp0Y2 := (o2.blk h0.hp.drew (nb _ (.inr (.inr rfl)))).cell 0
    have fp1Y2 := (o2.blk h0.hp.drew (nb _ (.inr (.inr rfl)))).cell 1
    have fn0Y2 := (o2.blk h1.drew (nb _ (.inl rfl))).cell 0
    have fn1Y2 := (o2.blk h1.drew (nb _ (.inl rfl))).cell 1
    have fs0Y2 := (o2.blk h2.drew (nb _ (.inr (.inl rfl)))).cell 0
    have fs1Y2 := (o2.blk h2.drew (nb _ (.inr (.inl rfl)))).cell 1
    have fp0Y3 := (o3.blk h0.hp.drew (nb _ (.inr (.inr rfl)))).cell 0
    have fp1Y3 := (o3.blk h0.hp.drew (nb _ (.inr (.inr rfl)))).cell 1
    have fn0Y3 := (o3.blk h1.drew (nb _ (.inl rfl))).cell 0
    have fn1Y3 := (o3.blk h1.drew (nb _ (.inl rfl))).cell 1
    have fs0Y3 := (o3.blk h2.drew (nb _ (.inr (.inl rfl)))).cell 0
    have fs1Y3 := (o3.blk h2.drew (nb _ (.inr (.inl rfl)))).cell 1
    simp only [prL, List.getElem?_cons_zero, List.getElem?_cons_succ] at fp0Y fp1Y fn0Y fn1Y fs0Y fs1Y fp0Y1 fp1Y1 fn0Y1 fn1Y1 fs0Y1 fs1Y1 fp0Y2 fp1Y2 fn0Y2 fn1Y2 fs0Y2 fs1Y2 fp0Y3 fp1Y3 fn0Y3 fn1Y3 fs0Y3 fs1Y3
    clear h0 h1 h2 h3 h4 h5 hQ o1 o2 o3 o4 nb HY hmem
    go_region
    all_goals go_wp2
    all_goals (first | go_end0 | refine bodyPost_ret (results_none rfl _ _ _) rfl ?_)
    all_goals exact ⟨rfl, HQ.out⟩
theorem names_nodup {S : List Pl} (g : Good S) : (S.map (·.1)).Nodup := by
 rw [List.Nodup, List.pairwise_map]
 exact g.names
theorem names_perm {S : List Pl} (g : Good S) {xs : List Pr} (hn : xs.Nodup) (hm : ∀ x, x ∈ xs ↔ kN.ok x ∧ ∃ s, (x, s) ∈ S) : xs.Perm (S.map (·.1)) :=
 perm_of_mem hn (names_nodup g) (fun x => by
  rw [hm, List.mem_map]
  constructor
  ·rintro ⟨_, s, h⟩; exact ⟨_, h, rfl⟩
  ·rintro ⟨p, hp, rfl⟩; exact ⟨fitsN_ok (g.fits p hp).1, p.2, hp⟩)
theorem invKN (key : Value) (kl : Lit) (h : keyOf Tryz.prog 180 key = some kl) : ∃ x, key = (fun x : Pr => Value.agg #[.int .u32 x.1, .int .u64 x.2]) x := by
 obtain ⟨x, hx, _⟩ := keyN_inv h
 exact ⟨x, hx⟩
theorem invV (v : Value) (y : DataW Value × List MemPlace) (h : heldR v = some y) : ∃ c, v = (fun v : Value => v) c := ⟨v, rfl⟩
theorem keyN_of {x : Pr} {kl : Lit} (h : keyOf Tryz.prog 180 (.agg #[.int .u32 x.1, .int .u64 x.2]) = some kl) : kN.ok x ∧ kl = kN.kl x := by
 obtain ⟨y, hy, h1, h2⟩ := keyN_inv h
 have : x = y := encP_inj hy
 subst this
 exact ⟨h1, h2⟩
def cN (t : Int) (xs : List Pr) : Nat := (xs.filter (fun x => x.1 == t)).length
end Go.Proofs.YtcdnjeiamihhbabGreat
namespace Go.Proofs.YtcdnjeiamihhbabGreat
open Go.Shelf Go.RowKit Go.Lib Go.Sort
def Tryz.sortN_ren : Go.Shelf.Ren := ⟨fun | 6 => 96 | 15 => 150 | 14 => 154 | 28 => 203 | 29 => 204 | 20 => 207 | 21 => 208 | 22 => 209 | 23 => 210 | 24 => 211 | 25 => 212 | 26 => 213 | 27 => 214 | 46 => 232 | 47 => 228 | 48 => 229 | 49 => 233 | 50 => 234 | 57 => 248 | n => n, fun | 22 => 174 | 24 => 180 | 25 => 182 | 3 => 3 | 39 => 226 | 0 => 0 | 53 => 48 | 55 => 36 | 4 => 4 | 46 => 274 | 45 => 273 | 50 => 86 | 5 => 5 | 9 => 9 | 66 => 297 | 70 => 300 | 76 => 311 | 77 => 43 | n => n, fun | n => n⟩
theorem Tryz.sortN : Go.Proofs.SlLaysF0.n6 Tryz.prog Tryz.sortN_ren := {
 mixed := by kernel_rfl,
 f6 := ⟨Tryz.f96.name, by decide, Tryz.func96.trans (congrArg some (by kernel_rfl))⟩,
 f14 := ⟨Tryz.f154.name, by decide, Tryz.func154.trans (congrArg some (by kernel_rfl))⟩,
 f15 := Tryz.func150.trans (congrArg some (by kernel_rfl)),
 f20 := ⟨Tryz.f207.name, by decide, Tryz.func207.trans (congrArg some (by kernel_rfl))⟩,
 f21 := ⟨Tryz.f208.name, by decide, Tryz.func208.trans (congrArg some (by kernel_rfl))⟩,
 f22 := ⟨Tryz.f209.name, by decide, Tryz.func209.trans (congrArg some (by kernel_rfl))⟩,
 f23 := ⟨Tryz.f210.name, by decide, Tryz.func210.trans (congrArg some (by kernel_rfl))⟩,
 f24 := ⟨Tryz.f211.name, by decide, Tryz.func211.trans (congrArg some (by kernel_rfl))⟩,
 f25 := ⟨Tryz.f212.name, by decide, Tryz.func212.trans (congrArg some (by kernel_rfl))⟩,
 f26 := ⟨Tryz.f213.name, by decide, Tryz.func213.trans (congrArg some (by kernel_rfl))⟩,
 f27 := ⟨Tryz.f214.name, by decide, Tryz.func214.trans (congrArg some (by kernel_rfl))⟩,
 f28 := Tryz.func203.trans (congrArg some (by kernel_rfl)),
 f29 := Tryz.func204.trans (congrArg some (by kernel_rfl)),
 f46 := ⟨Tryz.f232.name, by decide, Tryz.func232.trans (congrArg some (by kernel_rfl))⟩,
 f47 := Tryz.func228.trans (congrArg some (by kernel_rfl)),
 f48 := Tryz.func229.trans (congrArg some (by kernel_rfl)),
 f49 := ⟨Tryz.f233.name, by decide, Tryz.func233.trans (congrArg some (by kernel_rfl))⟩,
 f50 := ⟨Tryz.f234.name, by decide, Tryz.func234.trans (congrArg some (by kernel_rfl))⟩,
 f57 := ⟨Tryz.f248.name, by decide, Tryz.func248.trans (congrArg some (by kernel_rfl))⟩,
 t0 := Tryz.underlying0,
 a0 := Tryz.isAgg0,
 z0 := Tryz.sizeOf0,
 v0 := Tryz.zeroValue0,
 t3 := Tryz.underlying3,
 a3 := Tryz.isAgg3,
 z3 := Tryz.sizeOf3,
 v3 := Tryz.zeroValue3,
 t4 := Tryz.underlying4,
 a4 := Tryz.isAgg4,
 z4 := Tryz.sizeOf4,
 v4 := Tryz.zeroValue4,
 t5 := Tryz.underlying5,
 a5 := Tryz.isAgg5,
 z5 := Tryz.sizeOf5,
 v5 := Tryz.zeroValue5,
 t9 := Tryz.underlying9,
 a9 := Tryz.isAgg9,
 z9 := Tryz.sizeOf9,
 v9 := Tryz.zeroValue9,
 t22 := Tryz.underlying174,
 a22 := Tryz.isAgg174,
 z22 := Tryz.sizeOf174,
 v22 := Tryz.zeroValue174,
 t25 := Tryz.underlying182,
 a25 := Tryz.isAgg182,
 z25 := Tryz.sizeOf182,
 v25 := Tryz.zeroValue182,
 t39 := Tryz.underlying226,
 a39 := Tryz.isAgg226,
 z39 := Tryz.sizeOf226,
 v39 := Tryz.zeroValue226,
 t45 := Tryz.underlying273,
 a45 := Tryz.isAgg273,
 z45 := Tryz.sizeOf273,
 v45 := Tryz.zeroValue273,
 t46 := Tryz.underlying274,
 a46 := Tryz.isAgg274,
 z46 := Tryz.sizeOf274,
 v46 := Tryz.zeroValue274,
 t50 := Tryz.underlying86,
 a50 := Tryz.isAgg86,
 z50 := Tryz.sizeOf86,
 v50 := Tryz.zeroValue86,
 t53 := Tryz.underlying48,
 a53 := Tryz.isAgg48,
 z53 := Tryz.sizeOf48,
 v53 := Tryz.zeroValue48,
 t55 := Tryz.underlying36,
 a55 := Tryz.isAgg36,
 z55 := Tryz.sizeOf36,
 v55 := Tryz.zeroValue36,
 t66 := Tryz.underlying297,
 a66 := Tryz.isAgg297,
 z66 := Tryz.sizeOf297,
 v66 := Tryz.zeroValue297,
 t70 := Tryz.underlying300,
 a70 := Tryz.isAgg300,
 z70 := Tryz.sizeOf300,
 v70 := Tryz.zeroValue300,
 t76 := Tryz.underlying311,
 a76 := Tryz.isAgg311,
 z76 := Tryz.sizeOf311,
 v76 := Tryz.zeroValue311,
 t77 := Tryz.underlying43,
 a77 := Tryz.isAgg43,
 z77 := Tryz.sizeOf43,
 v77 := Tryz.zeroValue43 }
end Go.Proofs.YtcdnjeiamihhbabGreat
