/- What one call of forget, Drop and Put does. -/
import Derived.Test.YtconfkgadmjhhaaLmP
namespace Go.Proofs.Ytconfkgadmjhhaa
open Go.RowKit
set_option linter.unusedVariables false
set_option maxRecDepth 4000

def Two (b1 b2 : Nat) : Nat → Prop := fun k => k = b1 ∨ k = b2
/-- Both maps without a block, in two steps. -/
theorem LmP.drop1 {w : World} {p b1 b2 : Nat} {S : List Pl} {c : Nat} (h : LmP w p b1 b2 S c) {n s : Pr} (hn : FitsN n) (hg : getS S n = some s) (ty : TypeId) :
    ∃ w1, (Builtin.delete_ #[54, 63] ty #[.map (some b1), .agg #[.int .u32 n.1, .int .u64 n.2]]).run Try.prog w = .ok (.tuple #[]) w1 ∧ Out (Two b1 b2) w w1 ∧ w1.heap.size = w.heap.size ∧ Blk w1 p [.map (some b1), .map (some b2)] 57 ∧
      ∀ w1' : World, (∀ k, k = p ∨ k = b1 ∨ k = b2 → w1'.heap[k]? = w1.heap[k]?) → ∀ ty', ∃ w2, (Builtin.delete_ #[55, 60] ty' #[.map (some b2), .agg #[.int .i64 s.1, .int .i64 s.2]]).run Try.prog w1' = .ok (.tuple #[]) w2 ∧ LmP w2 p b1 b2 (dropS S n) c ∧ Out (Two b1 b2) w1' w2 := by
  have hm := (getS_some h.good).1 hg
  have hs : FitsS s := (h.good.fits _ hm).2
  obtain ⟨w1, hr, k1, k2⟩ := h.m1.drop okN (fitsN_ok hn) ty
  have o1 := turned_out k2
  have hp1 : Blk w1 p [.map (some b1), .map (some b2)] 57 := o1.blk h.hp (h.m1.no_blk h.hp)
  have m2' : MapIs kS w1 b2 c (fun s n => (n, s) ∈ S) := h.m2.same (o1.block b2 h.m2.lt (fun e => h.ne e.symm))
  refine ⟨w1, hr, o1.mono (fun j e _ => .inl e), turned_size k2, hp1, fun w1' hs1 ty' => ?_⟩
  have hp1' : Blk w1' p [.map (some b1), .map (some b2)] 57 := by unfold Blk; rw [hs1 p (.inl rfl)]; exact hp1
  have m1' := k1.same (hs1 b1 (.inr (.inl rfl)))
  have m2'' := m2'.same (hs1 b2 (.inr (.inr rfl)))
  obtain ⟨w2, hr2, j1, j2⟩ := m2''.drop okS (fitsS_ok hs) ty'
  have o2 := turned_out j2
  refine ⟨w2, hr2, ⟨o2.blk hp1' (m2''.no_blk hp1'), (m1'.same (o2.block b1 m1'.lt h.ne)).congr (fun x y _ => ?_), j1.congr (fun x y _ => ?_), h.ne, h.good.drop n⟩, o2.mono (fun j e _ => .inr e)⟩
  · rw [mem_dropS]
  · rw [mem_dropS]
    constructor
    · rintro ⟨h1, h2⟩
      refine ⟨h1, fun e => h2 ?_⟩
      have := h.good.one_name h1 hm e
      exact (congrArg Prod.snd this)
    · rintro ⟨h1, h2⟩
      refine ⟨h1, fun e => h2 ?_⟩
      have := h.good.one_spot h1 hm e
      exact (congrArg Prod.fst this)

theorem mForget_of (p b1 b2 : Nat) (S : List Pl) (c : Nat) (n : Pr) (w : World) (h : LmP w p b1 b2 S c) (hn : FitsN n) :
    Calls Try.prog 32 #[.pointer (some ⟨p, 0, none⟩), .agg #[.int .u32 n.1, .int .u64 n.2]] w fun e w' => e = .returned (.bool (getS S n).isSome) ∧ LmP w' p b1 b2 (dropS S n) c ∧ Out (Two b1 b2) w w' := by
  have hh := h.alloc (.cells #[.int .u32 n.1, .int .u64 n.2] 63)
  have c0 := hh.hp.cell 0
  have hl := hh.drew.lookN hn
  have hh2 := hh.alloc (.cells #[.int .i64 0, .int .i64 0] 60)
  have d0 := hh2.hp.cell 0
  have hl2 := hh2.drew.lookN hn
  simp only [List.getElem?_cons_zero] at c0 d0
  cases ho : getS S n with
  | none =>
    simp only [ho, Option.getD_none, Option.isSome_none] at hl hl2
    have H : Hid (LmP ((w.alloc (.cells #[.int .u32 n.1, .int .u64 n.2] 63)).alloc (.cells #[.int .i64 0, .int .i64 0] 60)).drew p b1 b2 (dropS S n) c ∧ Out (Two b1 b2) w ((w.alloc (.cells #[.int .u32 n.1, .int .u64 n.2] 63)).alloc (.cells #[.int .i64 0, .int .i64 0] 60)).drew) :=
      ⟨by rw [drop_none ho]; exact hh2.drew, (((Out.refl _ _).alloc _).alloc _).drew⟩
    clear hh hh2 ho h
    go_enter Try.func32, Try.ntmps32
    go_wp2
    go_region
    all_goals go_wp2
    all_goals go_ret
    all_goals exact ⟨rfl, H.out⟩
  | some s =>
    simp only [ho, Option.getD_some, Option.isSome_some] at hl hl2
    have hV : LmP ((w.alloc (.cells #[.int .u32 n.1, .int .u64 n.2] 63)).alloc (.cells #[.int .i64 s.1, .int .i64 s.2] 60)).drew p b1 b2 S c := (hh.alloc _).drew
    have oV : Out (Two b1 b2) w ((w.alloc (.cells #[.int .u32 n.1, .int .u64 n.2] 63)).alloc (.cells #[.int .i64 s.1, .int .i64 s.2] 60)).drew := (((Out.refl _ _).alloc _).alloc _).drew
    have bN : Blk ((w.alloc (.cells #[.int .u32 n.1, .int .u64 n.2] 63)).alloc (.cells #[.int .i64 s.1, .int .i64 s.2] 60)).drew w.heap.size (prL .u32 .u64 n) 63 := ((Blk.new' rfl rfl).alloc _).drew
    have bS : Blk ((w.alloc (.cells #[.int .u32 n.1, .int .u64 n.2] 63)).alloc (.cells #[.int .i64 s.1, .int .i64 s.2] 60)).drew (w.heap.size + 1) (prL .i64 .i64 s) 60 := (Blk.new' (by simp) rfl).drew
    have H : Hid (LmP ((w.alloc (.cells #[.int .u32 n.1, .int .u64 n.2] 63)).alloc (.cells #[.int .i64 s.1, .int .i64 s.2] 60)).drew p b1 b2 S c ∧ Out (Two b1 b2) w ((w.alloc (.cells #[.int .u32 n.1, .int .u64 n.2] 63)).alloc (.cells #[.int .i64 s.1, .int .i64 s.2] 60)).drew ∧ Blk ((w.alloc (.cells #[.int .u32 n.1, .int .u64 n.2] 63)).alloc (.cells #[.int .i64 s.1, .int .i64 s.2] 60)).drew w.heap.size (prL .u32 .u64 n) 63 ∧ Blk ((w.alloc (.cells #[.int .u32 n.1, .int .u64 n.2] 63)).alloc (.cells #[.int .i64 s.1, .int .i64 s.2] 60)).drew (w.heap.size + 1) (prL .i64 .i64 s) 60 ∧ getS S n = some s) := ⟨hV, oV, bN, bS, ho⟩
    clear hh hh2 h hV oV bN bS ho
    go_enter Try.func32, Try.ntmps32
    go_wp2
    go_region
    all_goals go_wp2_with fail
    all_goals generalize ((w.alloc (.cells #[.int .u32 n.1, .int .u64 n.2] 63)).alloc (.cells #[.int .i64 s.1, .int .i64 s.2] 60)).drew = V at H ⊢
    all_goals clear hl hl2 c0 d0
    all_goals obtain ⟨hV, oV, bN, bS, ho⟩ := H.out
    all_goals clear H
    all_goals obtain ⟨W, hd1, oW, sW, pW, next⟩ := hV.drew.drop1 hn ho 0
    all_goals have c0 := hV.hp.cell 0
    all_goals have n0 := bN.cell 0
    all_goals have n1 := bN.cell 1
    all_goals simp only [prL, List.getElem?_cons_zero, List.getElem?_cons_succ] at c0 n0 n1
    all_goals go_region
    all_goals go_wp2_with fail
    all_goals have bS2 : Blk W (w.heap.size + 1) (prL .i64 .i64 s) 60 := oW.blk bS.drew (fun e => by rcases e with e | e; exact hV.m1.no_blk bS e; exact hV.m2.no_blk bS e)
    all_goals obtain ⟨Z, hd2, hZ, oZ⟩ := next W.drew (fun _ _ => rfl) 0
    all_goals have c1 := pW.cell 1
    all_goals have s0 := bS2.cell 0
    all_goals have s1 := bS2.cell 1
    all_goals have HZ : Hid (LmP Z p b1 b2 (dropS S n) c ∧ Out (Two b1 b2) w Z) := ⟨hZ, ((oV.drew).trans oW (fun j e => .inl e)).drew.trans oZ (fun j e => .inl e)⟩
    all_goals simp only [prL, List.getElem?_cons_zero, List.getElem?_cons_succ] at c1 s0 s1
    all_goals clear hV oV bN bS ho hd1 oW sW pW next c0 n0 n1 bS2 hZ oZ
    all_goals go_region
    all_goals go_wp2
    all_goals go_ret
    all_goals exact ⟨rfl, HZ.out⟩
theorem mDrop_of (p b1 b2 : Nat) (S : List Pl) (c : Nat) (n : Pr) (w : World) (h : LmP w p b1 b2 S c) (hn : FitsN n) :
    Calls Try.prog 23 #[.pointer (some ⟨p, 0, none⟩), .int .u32 n.1, .int .u64 n.2] w fun e w' => e = .returned (.bool (getS S n).isSome) ∧ LmP w' p b1 b2 (dropS S n) c ∧ Out (Two b1 b2) w w' := by
  have C := mForget_of p b1 b2 S c n w h hn
  clear h hn
  go_enter Try.func23, Try.ntmps23
  go_wp2_with fail
  refine C.mono ?_
  rintro e w' ⟨rfl, hx⟩
  have H : Hid (LmP w' p b1 b2 (dropS S n) c ∧ Out (Two b1 b2) w w') := hx
  clear hx C
  go_wp2
  go_ret
  exact ⟨rfl, H.out⟩

/-- A place's map behind the two writes. -/
theorem LmP.put1 {w : World} {p b1 b2 : Nat} {S : List Pl} {c : Nat} (h : LmP w p b1 b2 S c) {x : Pl} (hx : FitsP x) (hc : c < 100000) (h1 : getS S x.1 = none) (h2 : atS S x.2 = none) (S' : List Pl) (gS : Good S') (hS' : ∀ q, q ∈ S' ↔ q = x ∨ q ∈ S) :
    ∃ (v1 v2 : Value) (s1 s2 : Nat) (w1 w2 w3 w4 : World), (Instr.mapEntry 54 (.map (some b1)) (.agg #[.int .u32 x.1.1, .int .u64 x.1.2])).run Try.prog w = .ok (.tuple #[v1, Value.int .i64 (s1 : Int)]) w1 ∧
      (Instr.entryStore 54 (.map (some b1)) (.int .i64 (s1 : Int)) (.agg #[.int .i64 x.2.1, .int .i64 x.2.2])).run Try.prog w1 = .ok () w2 ∧
      (Instr.mapEntry 55 (.map (some b2)) (.agg #[.int .i64 x.2.1, .int .i64 x.2.2])).run Try.prog w2 = .ok (.tuple #[v2, Value.int .i64 (s2 : Int)]) w3 ∧
      (Instr.entryStore 55 (.map (some b2)) (.int .i64 (s2 : Int)) (.agg #[.int .u32 x.1.1, .int .u64 x.1.2])).run Try.prog w3 = .ok () w4 ∧
      LmP w4 p b1 b2 S' (c + 1) ∧ Out (Two b1 b2) w w1 ∧ Out (Two b1 b2) w w2 ∧ Out (Two b1 b2) w w3 ∧ Out (Two b1 b2) w w4 := by
  obtain ⟨v1, s1, w1, w2, e1, e2, k1, t1, t2⟩ := h.m1.entry okN (fitsN_ok hx.1) x.2 (by omega)
  have o2 := turned_out t2
  have hp2 : Blk w2 p [.map (some b1), .map (some b2)] 57 := o2.blk h.hp (h.m1.no_blk h.hp)
  have m2' : MapIs kS w2 b2 c (fun s n => (n, s) ∈ S) := h.m2.same (o2.block b2 h.m2.lt (fun e => h.ne e.symm))
  obtain ⟨v2, s2, w3, w4, e3, e4, k2, t3, t4⟩ := m2'.entry okS (fitsS_ok hx.2) x.1 (by omega)
  have o4 := turned_out t4
  refine ⟨v1, v2, s1, s2, w1, w2, w3, w4, e1, e2, e3, e4, ⟨o4.blk hp2 (m2'.no_blk hp2), (k1.same (o4.block b1 k1.lt h.ne)).congr (fun n s _ => ?_), k2.congr (fun s n _ => ?_), h.ne, gS⟩, (turned_out t1).mono (fun j e _ => .inl e), o2.mono (fun j e _ => .inl e), (o2.mono (fun j e _ => .inl e)).trans ((turned_out t3).mono (O' := Two b1 b2) (fun j e _ => .inr e)) (fun j e => .inl e), (o2.mono (fun j e _ => .inl e)).trans (o4.mono (O' := Two b1 b2) (fun j e _ => .inr e)) (fun j e => .inl e)⟩
  · rw [hS']
    constructor
    · rintro (⟨rfl, rfl⟩ | ⟨_, hm⟩)
      · exact .inl rfl
      · exact .inr hm
    · rintro (e | hm)
      · exact .inl ⟨congrArg Prod.fst e, congrArg Prod.snd e⟩
      · refine .inr ⟨fun e => ?_, hm⟩
        exact getS_none.1 h1 s (by rw [← e]; exact hm)
  · rw [hS']
    constructor
    · rintro (⟨rfl, rfl⟩ | ⟨_, hm⟩)
      · exact .inl rfl
      · exact .inr hm
    · rintro (e | hm)
      · exact .inl ⟨congrArg Prod.snd e, congrArg Prod.fst e⟩
      · refine .inr ⟨fun e => ?_, hm⟩
        exact atS_none.1 h2 n (by rw [← e]; exact hm)
theorem put_mem {S : List Pl} (g : Good S) (x : Pl) {n : Pr} (ha : atS (dropS S x.1) x.2 = some n) (q : Pl) : q ∈ putS S x ↔ q = x ∨ q ∈ dropS (dropS S x.1) n := by
  have hm := (atS_some (g.drop x.1)).1 ha
  rw [mem_putS g, mem_dropS, mem_dropS]
  constructor
  · rintro (h | ⟨h1, h2, h3⟩)
    · exact .inl h
    · refine .inr ⟨⟨h1, h2⟩, fun e => h3 ?_⟩
      have := g.one_name h1 (mem_dropS.1 hm).1 e
      rw [this]
  · rintro (h | ⟨⟨h1, h2⟩, h3⟩)
    · exact .inl h
    · refine .inr ⟨h1, h2, fun e => h3 ?_⟩
      have := g.one_spot h1 (mem_dropS.1 hm).1 e
      rw [this]
theorem put_mem0 {S : List Pl} (g : Good S) (x : Pl) (ha : atS (dropS S x.1) x.2 = none) (q : Pl) : q ∈ putS S x ↔ q = x ∨ q ∈ dropS S x.1 := by
  rw [mem_putS g, mem_dropS]
  constructor
  · rintro (h | ⟨h1, h2, h3⟩)
    · exact .inl h
    · exact .inr ⟨h1, h2⟩
  · rintro (h | ⟨h1, h2⟩)
    · exact .inl h
    · exact .inr ⟨h1, h2, fun e => atS_none.1 ha q.1 (mem_dropS.2 ⟨by rw [← e]; exact h1, h2⟩)⟩
theorem get_drop (S : List Pl) (n : Pr) : getS (dropS S n) n = none := getS_none.2 (fun s h => (mem_dropS.1 h).2 rfl)
theorem get_drop2 (S : List Pl) (n m : Pr) : getS (dropS (dropS S n) m) n = none := getS_none.2 (fun s h => (mem_dropS.1 (mem_dropS.1 h).1).2 rfl)
theorem at_drop2 {S : List Pl} (g : Good S) {x : Pr} {m : Pr} (h : atS S x = some m) : atS (dropS S m) x = none := atS_none.2 (fun n hm => (mem_dropS.1 hm).2 (by
  have := g.one_spot (mem_dropS.1 hm).1 ((atS_some g).1 h) rfl
  exact congrArg Prod.fst this))
end Go.Proofs.Ytconfkgadmjhhaa
