/- What one call of req's Next does. -/
import Derived.Test.YtlfmdplaoalahaaRReq
namespace Go.Proofs.Ytlfmdplaoalahaa
open Go.RowKit
set_option linter.unusedVariables false
set_option maxRecDepth 4000

/-- Next's own variables. -/
structure NextSt (q : Nat) (w V : World) (L : List Value) (A : Option Addr) (n c : Nat) : Prop where
  req : Blk V q L 28
  len : L.length = 6
  cnt : Blk V (q + 1) [.int .i64 0] 3
  err : Blk V (q + 2) [.int .u16 0] 29
  left : Blk V (q + 3) [.slice A n c] 55
  bel : Below q w V
  size : q + 4 ≤ V.heap.size
theorem NextSt.below {q : Nat} {w V V' : World} {L : List Value} {A : Option Addr} {n c : Nat} (h : NextSt q w V L A n c) (hb : Below V.heap.size V V') : NextSt q w V' L A n c :=
  ⟨h.req.below hb h.req.lt, h.len, h.cnt.below hb h.cnt.lt, h.err.below hb h.err.lt, h.left.below hb h.left.lt, h.bel.trans (hb.mono (by have := h.size; omega)), Nat.le_trans h.size hb.size⟩
theorem NextSt.leave {q : Nat} {w V : World} {L : List Value} {A A' : Option Addr} {n c n' c' : Nat} (h : NextSt q w V L A n c) : NextSt q w (V.setCell ⟨q + 3, 0, none⟩ (.slice A' n' c')) L A' n' c' :=
  ⟨h.req.set_other (by show q ≠ q + 3; omega) _, h.len, h.cnt.set_other (by show q + 1 ≠ q + 3; omega) _, h.err.set_other (by show q + 2 ≠ q + 3; omega) _, h.left.set 0 _, h.bel.setCell (by show q ≤ q + 3; omega) _, by have := h.size; simpa [World.setCell] using this⟩
theorem NextSt.put {q : Nat} {w V : World} {L L' : List Value} {A : Option Addr} {n c : Nat} (h : NextSt q w V L A n c) (hl : L'.length = 6) : NextSt q w (V.setCells q 0 L') L' A n c :=
  ⟨h.req.setAll (by rw [h.len, hl]), hl, h.cnt.setCells_other (by omega) _ _, h.err.setCells_other (by omega) _ _, h.left.setCells_other (by omega) _ _, below_setCells (Nat.le_refl _) _ _ _ h.bel, by rw [size_setCells']; exact h.size⟩
theorem next_start (q : Nat) (w : World) (hq : q = w.heap.size) (A : Option Addr) (n c : Nat) :
    NextSt q w ((((w.alloc (.cells #[.int .u16 0, .int .u16 0, .int .u64 0, .int .u64 0, .int .u32 0, .slice none 0 0] 28)).alloc (.cells #[.int .i64 0] 3)).alloc (.cells #[.int .u16 0] 29)).alloc (.cells #[.slice A n c] 55)) (reqL rq0 none 0 0) A n c := by
  subst hq
  refine ⟨?_, rfl, ?_, ?_, ?_, ?_, by rw [sizes4]; exact Nat.le_refl _⟩
  · exact (((Blk.new' rfl rfl).alloc _).alloc _).alloc _
  · exact ((Blk.new' (by simp) rfl).alloc _).alloc _
  · exact (Blk.new' (by simp) rfl).alloc _
  · exact Blk.new' (by simp) rfl
  · exact ((((Below.refl _ _).alloc (Nat.le_refl _) _).alloc (by simp) _).alloc (by simp; omega) _).alloc (by simp; omega) _
theorem next_results (q : Nat) (tmps : Array Value) (w : World) (L : List Value) (v1 v2 : Value) (h2 : tmps.getD 2 undef = .pointer (some ⟨q, 0, none⟩)) (h3 : tmps.getD 3 undef = .pointer (some ⟨q + 1, 0, none⟩)) (h4 : tmps.getD 4 undef = .pointer (some ⟨q + 2, 0, none⟩))
    (hb : Blk w q L 28) (hL : L.length = 6) (c1 : w.cell? ⟨q + 1, 0, none⟩ = some v1) (c2 : w.cell? ⟨q + 2, 0, none⟩ = some v2) :
    (results Try.f10 tmps).run Try.prog w = .ok (.tuple #[.agg L.toArray, v1, v2]) w := by
  have hl := run_loadVar_row (P := Try.prog) w q 28 28 L.toArray (0, 0) _ hb Try.underlying28 rfl (by rw [Try.info_request]; simp [hL])
  have l1 : (loadVar 3 ⟨q + 1, 0, none⟩).run Try.prog w = .ok v1 w := by simp [go_sem, c1]
  have l2 : (loadVar 29 ⟨q + 2, 0, none⟩).run Try.prog w = .ok v2 w := by simp [go_sem, c2]
  have : (results Try.f10 tmps).run Try.prog w = ((asAddr (tmps.getD 2 undef)).run Try.prog w).andThen fun a w₁ => ((loadVar 28 a).run Try.prog w₁).andThen fun z w₂ => ((asAddr (tmps.getD 3 undef)).run Try.prog w₂).andThen fun a w₃ => ((loadVar 3 a).run Try.prog w₃).andThen fun y w₄ => ((asAddr (tmps.getD 4 undef)).run Try.prog w₄).andThen fun a w₅ => ((loadVar 29 a).run Try.prog w₅).andThen fun x w₆ => .ok (.tuple #[z, y, x]) w₆ := by
    simp only [results, Try.results10]
    simp [Sem.run_bind, Result.andThen]
  rw [this, h2, h3, h4]
  simp [asAddr, hl, l1, l2, Result.andThen]
/-- What Next tells. -/
def NextGot (q : Nat) (w : World) (R0 : Rq) (D0 : List Int) (C0 E0 : Int) (e : Ending) (w' : World) : Prop :=
  ∃ A k C, e = .returned (.tuple #[.agg (reqL R0 A k C).toArray, .int .i64 C0, .int .u16 E0]) ∧ BIn w' A k D0 ∧ (A = none → k = 0 ∧ C = 0) ∧ Below q w w'
def catchD (q : Nat) : List Deferred := [{ target := .fn (.func 23) #[.pointer (some ⟨q, 0, none⟩), .pointer (some ⟨q + 1, 0, none⟩), .pointer (some ⟨q + 2, 0, none⟩)], args := #[] }]
theorem NextSt.told {q : Nat} {w V : World} {L : List Value} {A : Option Addr} {n c : Nat} (h : NextSt q w V L A n c) (x y : Int) :
    Blk ((V.setCell ⟨q + 1, 0, none⟩ (.int .i64 x)).setCell ⟨q + 2, 0, none⟩ (.int .u16 y)) q L 28 ∧ ((V.setCell ⟨q + 1, 0, none⟩ (.int .i64 x)).setCell ⟨q + 2, 0, none⟩ (.int .u16 y)).cell? ⟨q + 1, 0, none⟩ = some (.int .i64 x) ∧
    ((V.setCell ⟨q + 1, 0, none⟩ (.int .i64 x)).setCell ⟨q + 2, 0, none⟩ (.int .u16 y)).cell? ⟨q + 2, 0, none⟩ = some (.int .u16 y) ∧ Below q w ((V.setCell ⟨q + 1, 0, none⟩ (.int .i64 x)).setCell ⟨q + 2, 0, none⟩ (.int .u16 y)) := by
  refine ⟨(h.req.set_other (by show q ≠ q + 1; omega) _).set_other (by show q ≠ q + 2; omega) _, ?_, ?_, (h.bel.setCell (by show q ≤ q + 1; omega) _).setCell (by show q ≤ q + 2; omega) _⟩
  · exact ((h.cnt.set 0 _).set_other (by show q + 1 ≠ q + 2; omega) _).cell 0
  · exact ((h.err.set_other (by show q + 2 ≠ q + 1; omega) _).set 0 _).cell 0
/-- It panicked: what is told then. -/
theorem next_died {q : Nat} {w V : World} {L : List Value} {A : Option Addr} {n c : Nat} (st : NextSt q w V L A n c) (tmps : Array Value) (h2 : tmps.getD 2 undef = .pointer (some ⟨q, 0, none⟩)) (h3 : tmps.getD 3 undef = .pointer (some ⟨q + 1, 0, none⟩)) (h4 : tmps.getD 4 undef = .pointer (some ⟨q + 2, 0, none⟩)) :
    Leaves Try.prog Try.f10 tmps (NextGot q w rq0 [] 0 80) (catchD q) (.panicking [{ v := .iface 9 (.string tooEarly), recovered := false }]) V := by
  refine leaves_cons (f := 23) (args := #[.pointer (some ⟨q, 0, none⟩), .pointer (some ⟨q + 1, 0, none⟩), .pointer (some ⟨q + 2, 0, none⟩)]) (by simp) (by simp [go_sem]) ?_
  refine (catchN_panicking q 9 _ [] _ L _ _ st.req st.len (st.cnt.cell 0) (st.err.cell 0) (st.cnt.frozen 0) (st.err.frozen 0)).mono ?_
  rintro e u' w'' ⟨rfl, rfl, rfl⟩
  obtain ⟨t1, t2, t3, t4⟩ := (st.put (L' := reqL rq0 none 0 0) rfl).told 0 80
  exact ⟨_, next_results q tmps _ _ _ _ h2 h3 h4 t1 rfl t2 t3, none, 0, 0, rfl, bin_none _, fun _ => ⟨rfl, rfl⟩, t4⟩
/-- It returned. -/
theorem next_told {q : Nat} {w V : World} {r : Rq} {D : List Int} {x y : Int} {A : Option Addr} {k C : Nat} (hb : Blk V q (reqL r A k C) 28) (h1 : V.cell? ⟨q + 1, 0, none⟩ = some (.int .i64 x)) (h2' : V.cell? ⟨q + 2, 0, none⟩ = some (.int .u16 y)) (hbel : Below q w V) (hd : BIn V A k D) (hnil : A = none → k = 0 ∧ C = 0)
    (tmps : Array Value) (h2 : tmps.getD 2 undef = .pointer (some ⟨q, 0, none⟩)) (h3 : tmps.getD 3 undef = .pointer (some ⟨q + 1, 0, none⟩)) (h4 : tmps.getD 4 undef = .pointer (some ⟨q + 2, 0, none⟩)) :
    Leaves Try.prog Try.f10 tmps (NextGot q w r D x y) (catchD q) .returning V := by
  refine leaves_cons (f := 23) (args := #[.pointer (some ⟨q, 0, none⟩), .pointer (some ⟨q + 1, 0, none⟩), .pointer (some ⟨q + 2, 0, none⟩)]) (by simp) (by simp [go_sem]) ?_
  refine (catchN_idle _ _ _ _).mono ?_
  rintro e u' w'' ⟨rfl, rfl, rfl⟩
  exact ⟨_, next_results q tmps _ _ _ _ h2 h3 h4 hb rfl h1 h2', A, k, C, rfl, hd, hnil, hbel⟩
theorem NextSt.data {q : Nat} {w V : World} {r : Rq} {A A2 : Option Addr} {n c k C k0 C0 : Nat} {A0 : Option Addr} (h : NextSt q w V (reqL r A0 k0 C0) A n c) : NextSt q w (V.setCell ⟨q, 5, none⟩ (.slice A2 k C)) (reqL r A2 k C) A n c :=
  ⟨h.req.set 5 _, rfl, h.cnt.set_other (by show q + 1 ≠ q; omega) _, h.err.set_other (by show q + 2 ≠ q; omega) _, h.left.set_other (by show q + 3 ≠ q; omega) _, h.bel.setCell (Nat.le_refl _) _, by have := h.size; simpa [World.setCell] using this⟩
theorem NextSt.put6 {q : Nat} {w V : World} {L : List Value} {A : Option Addr} {n c : Nat} (h : NextSt q w V L A n c) (r : Rq) (A2 : Option Addr) (k C : Nat) : NextSt q w ((((((V.setCell ⟨q, 0, none⟩ (.int .u16 r.fl)).setCell ⟨q, 1, none⟩ (.int .u16 r.kd)).setCell ⟨q, 2, none⟩ (.int .u64 r.ck)).setCell ⟨q, 3, none⟩ (.int .u64 r.ofs)).setCell ⟨q, 4, none⟩ (.int .u32 r.ln)).setCell ⟨q, 5, none⟩ (.slice A2 k C)) (reqL r A2 k C) A n c := h.put (L' := reqL r A2 k C) rfl
theorem own_six {q base : Nat} {V : World} {v : Value} {m : Nat} {zs : List Value} (h : V.ownsRow base 5 1 v m zs) (hq : q < base) (r : Rq) (A2 : Option Addr) (k C : Nat) : ((((((V.setCell ⟨q, 0, none⟩ (.int .u16 r.fl)).setCell ⟨q, 1, none⟩ (.int .u16 r.kd)).setCell ⟨q, 2, none⟩ (.int .u64 r.ck)).setCell ⟨q, 3, none⟩ (.int .u64 r.ofs)).setCell ⟨q, 4, none⟩ (.int .u32 r.ln)).setCell ⟨q, 5, none⟩ (.slice A2 k C)).ownsRow base 5 1 v m zs := own_setCells hq (reqL r A2 k C) 0 _ h
theorem NextSt.toldD {q : Nat} {w V : World} {L : List Value} {A : Option Addr} {n c : Nat} (h : NextSt q w V L A n c) (x y : Int) :
    Blk ((V.setCell ⟨q + 1, 0, none⟩ (.int .i64 x)).setCell ⟨q + 2, 0, none⟩ (.int .u16 y)).drew q L 28 ∧ ((V.setCell ⟨q + 1, 0, none⟩ (.int .i64 x)).setCell ⟨q + 2, 0, none⟩ (.int .u16 y)).drew.cell? ⟨q + 1, 0, none⟩ = some (.int .i64 x) ∧
    ((V.setCell ⟨q + 1, 0, none⟩ (.int .i64 x)).setCell ⟨q + 2, 0, none⟩ (.int .u16 y)).drew.cell? ⟨q + 2, 0, none⟩ = some (.int .u16 y) ∧ Below q w ((V.setCell ⟨q + 1, 0, none⟩ (.int .i64 x)).setCell ⟨q + 2, 0, none⟩ (.int .u16 y)).drew := by
  obtain ⟨t1, t2, t3, t4⟩ := h.told x y
  exact ⟨t1.drew, t2, t3, t4.drew⟩
theorem own_toldD {q base : Nat} {V : World} {v : Value} {m : Nat} {zs : List Value} (h : V.ownsRow base 5 1 v m zs) (hq : q + 2 < base) (x y : Int) : ((V.setCell ⟨q + 1, 0, none⟩ (.int .i64 x)).setCell ⟨q + 2, 0, none⟩ (.int .u16 y)).drew.ownsRow base 5 1 v m zs :=
  (ownsRow_setCell_below (ownsRow_setCell_below h (by show q + 1 < base; omega) _) (by show q + 2 < base; omega) _).drew
theorem wpList_store_req {ops : Array Oper} {rest : List Oper} {op : Oper} {a : Act} {w : World} {Q : Exit → Act → World → Prop} (hgd : op.guard = none) (x y : Operand) (ho : op.op = .store 28 x y)
    (g : Nat) (r : Rq) (A : Option Addr) (k C : Nat) (hx : a.eval x = .pointer (some ⟨g, 0, none⟩)) (hy : a.eval y = .agg (reqL r A k C).toArray) (ht : w.there g 0 6)
    (h : ∀ U, U = w.setCells g 0 (reqL r A k C) → wpList Try.prog ops Q rest (a.put op.dst undef) U) : wpList Try.prog ops Q (op :: rest) a w :=
  wpList_store_mid hgd 28 x y ho g 0 (reqL r A k C).toArray hx hy ht (req_size r A k C) (req_all r A k C) (h _ rfl)
theorem NextSt.there {q : Nat} {w V : World} {L : List Value} {A : Option Addr} {n c : Nat} (h : NextSt q w V L A n c) : V.there q 0 6 := h.req.there 0 6 (by rw [h.len]; exact Nat.le_refl _)
theorem NextSt.leave' {q : Nat} {w V : World} {L : List Value} {A A' : Option Addr} {n c n' c' : Nat} (h : NextSt q w V L A n c) {v : Value} (hv : .slice A' n' c' = v) : NextSt q w (V.setCell ⟨q + 3, 0, none⟩ v) L A' n' c' := by subst hv; exact h.leave
theorem left_bin {W : World} {a A' : Option Addr} {n c i : Nat} {xs : List Int} (h : BIn W a n xs) (hi : i ≤ n) (hc : n ≤ c) (hA : .slice A' (n - i) (c - i) = leftV a n c i) : BIn W A' (n - i) (xs.drop i) := by
  unfold leftV at hA
  injection hA with h1
  rw [h1]
  exact (NIn.back h.n i hi hc).b
theorem left_nil {a A' : Option Addr} {n c i : Nat} (hi : i ≤ n) (hn : a = none → n = 0 ∧ c = 0) (hA : .slice A' (n - i) (c - i) = leftV a n c i) : A' = none → n - i = 0 ∧ c - i = 0 := by
  unfold leftV at hA
  injection hA with h1
  rw [h1]
  exact back_nil hi hn

set_option maxHeartbeats 1000000 in
theorem next_of (a : Option Addr) (n c : Nat) (xs : List Int) (w : World) (hx : BIn w a n xs) (hnil : a = none → n = 0 ∧ c = 0) (hnc : n ≤ c) (hn : n ≤ 100000) :
    Calls Try.prog 10 #[.slice a n c] w (NextGot w.heap.size w (nxR xs) (nxD xs) (nxC xs) (nxE xs)) := by
  have hmf : ∀ (fn : Fn) (first cap : Array Value) (w : World), (Instr.makeFunc fn first cap).run Try.prog w = .ok (.func fn first cap) w := fun _ _ _ _ => rfl
  obtain ⟨R0, hR⟩ : ∃ K, K = nxR xs := ⟨_, rfl⟩
  obtain ⟨D0, hD⟩ : ∃ D, D = nxD xs := ⟨_, rfl⟩
  obtain ⟨C0, hC⟩ : ∃ C, C = nxC xs := ⟨_, rfl⟩
  obtain ⟨E0, hE⟩ : ∃ E, E = nxE xs := ⟨_, rfl⟩
  obtain ⟨q, hq⟩ : ∃ q, q = w.heap.size := ⟨_, rfl⟩
  rw [← hR, ← hD, ← hC, ← hE, ← hq]
  have HF : Hid (R0 = nxR xs ∧ D0 = nxD xs ∧ C0 = nxC xs ∧ E0 = nxE xs) := ⟨hR, hD, hC, hE⟩
  have hst := next_start q w hq a n c
  have H : Hid (BIn w a n xs ∧ (a = none → n = 0 ∧ c = 0) ∧ n ≤ c ∧ q = w.heap.size) := ⟨hx, hnil, hnc, hq⟩
  have H0 : Hid (NextSt q w ((((w.alloc (.cells #[.int .u16 0, .int .u16 0, .int .u64 0, .int .u64 0, .int .u32 0, .slice none 0 0] 28)).alloc (.cells #[.int .i64 0] 3)).alloc (.cells #[.int .u16 0] 29)).alloc (.cells #[.slice a n c] 55)) (reqL rq0 none 0 0) a n c) := hst
  clear hx hnil hnc hR hD hC hE hst
  go_enter_defers Try.func10, Try.ntmps10
  go_wp2_with fail
  rw [← hq]
  clear hq
  generalize hW : World.alloc (World.alloc (World.alloc (World.alloc w _) _) _) _ = W at H0 ⊢
  clear hW
  have e2 : q + 1 + 1 = q + 2 := rfl
  have e3 : q + 1 + 1 + 1 = q + 3 := rfl
  rw [e3, e2]
  clear e2 e3
  refine (reqWidths_of W).mono ?_
  rintro e W1 ⟨rfl, rfl⟩
  go_wp2_with fail
  have n0 := nin_rq (w := W) rfl
  have s0 : NextSt q w (W.alloc (.cells #[.int .i64 4, .int .i64 2, .int .i64 2, .int .i64 8, .int .i64 8, .int .i64 4] 3)) (reqL rq0 none 0 0) a n c := H0.out.below ((Below.refl _ _).alloc (Nat.le_refl _) _)
  generalize hW1 : World.alloc W _ = W1 at n0 s0 ⊢
  obtain ⟨s, hs⟩ : ∃ s, s = W.heap.size := ⟨_, rfl⟩
  rw [← hs] at n0 ⊢
  have HW : Hid (NIn .i64 W1 (some ⟨s, 0, none⟩) 6 rqW ∧ NextSt q w W1 (reqL rq0 none 0 0) a n c ∧ BIn W1 a n xs) := ⟨n0, s0, H.out.1.below (by rw [← H.out.2.2.2]; exact s0.bel)⟩
  clear hW1 n0 s0 hs
  by_cases h28 : n < 28
  · obtain ⟨r1, r2, r3, r4⟩ := nx_few (xs := xs) (by rw [H.out.1.1]; exact h28)
    have HR : Hid (R0 = rq0 ∧ D0 = [] ∧ C0 = 0 ∧ E0 = 80) := ⟨HF.out.1.trans r1, HF.out.2.1.trans r2, HF.out.2.2.1.trans r3, HF.out.2.2.2.trans r4⟩
    clear r1 r2 r3 r4
    refine (numbers_few (q + 3) a n c xs (some ⟨s, 0, none⟩) 6 6 rqW W1 (HW.out.2.1.left.cell 0) (HW.out.2.1.left.frozen 0) HW.out.2.2 H.out.2.1 H.out.2.2.1 HW.out.1 sane_rq hn (by omega) (by rw [off_rq]; exact h28)).mono ?_
    rintro e W2 ⟨rfl, bl⟩
    rw [HR.out.1, HR.out.2.1, HR.out.2.2.1, HR.out.2.2.2]
    exact next_died (HW.out.2.1.below bl) _ rfl rfl rfl
  refine (numbers_of (q + 3) a n c xs (some ⟨s, 0, none⟩) 6 6 rqW W1 (HW.out.2.1.left.cell 0) (HW.out.2.1.left.frozen 0) HW.out.2.2 H.out.2.1 H.out.2.2.1 HW.out.1 sane_rq hn (by omega) (by rw [off_rq]; omega)).mono ?_
  rw [off_rq, val_rq]
  obtain ⟨A', eA⟩ : ∃ A', .slice A' (n - 28) (c - 28) = leftV a n c 28 := ⟨_, rfl⟩
  have hls : ¬ xs.length < 28 := by rw [H.out.1.1]; exact h28
  have f1 := nx_magic hls
  have f2 := nx_other hls
  have f3 := nx_long hls
  have f4 := nx_more hls
  have f5 := nx_good hls
  have hrf := hR_fits H.out.1.2.2.1
  rw [H.out.1.1] at f4 f5
  obtain ⟨r, er⟩ : ∃ r, r = hR xs := ⟨_, rfl⟩
  obtain ⟨M, eM⟩ : ∃ M, M = hM xs := ⟨_, rfl⟩
  rw [← er, ← eM]
  rw [← er] at f2 f3 f4 f5 hrf
  rw [← eM] at f1 f2 f3 f4 f5
  rintro e W3 ⟨A, k, C, W2, rfl, bl, rfl, ow⟩
  have st3 : NextSt q w (W2.setCell ⟨q + 3, 0, none⟩ (leftV a n c 28)) (reqL rq0 none 0 0) A' (n - 28) (c - 28) := (HW.out.2.1.below bl).leave' eA
  have ow3 := ownsRow_setCell_below ow (a := ⟨q + 3, 0, none⟩) (by have := HW.out.2.1.size; show q + 3 < W1.heap.size; omega) (leftV a n c 28)
  generalize hW3 : World.setCell W2 _ _ = W3 at st3 ow3 ⊢
  obtain ⟨g, rfl, hk, hg, hkC, hc⟩ := own_at ow3 (by simp)
  have hk6 : k = 6 := by simpa using hk
  subst hk6
  have c0 : W3.cell? ⟨g, 0, none⟩ = some (.int .u64 M) := hc 0 (by simp)
  have c1 : W3.cell? ⟨g, 1, none⟩ = some (.int .u64 r.fl) := hc 1 (by simp)
  have c2 : W3.cell? ⟨g, 2, none⟩ = some (.int .u64 r.kd) := hc 2 (by simp)
  have c3 : W3.cell? ⟨g, 3, none⟩ = some (.int .u64 r.ck) := hc 3 (by simp)
  have c4 : W3.cell? ⟨g, 4, none⟩ = some (.int .u64 r.ofs) := hc 4 (by simp)
  have c5 : W3.cell? ⟨g, 5, none⟩ = some (.int .u64 r.ln) := hc 5 (by simp)
  have hsl : ∀ w : World, (Instr.slice 43 (.slice (some ⟨g, 0, none⟩) 6 C) (some (.int .i64 1)) none none).run Try.prog w = .ok (.slice (some ⟨g, 1, none⟩) 5 (C - 1)) w := fun w => by
    have := slice_back Try.underlying43 Try.one_u64s (some ⟨g, 0, none⟩) 6 C 1 (by omega) w
    rw [if_neg (by omega)] at this
    simpa [Addr.add_mid] using this
  have HG : Hid ((M ≠ rqMagic → nxR xs = rq0 ∧ nxD xs = [] ∧ nxC xs = 0 ∧ nxE xs = 81) ∧ (M = rqMagic → r.kd ≠ 1 → nxR xs = r ∧ nxD xs = [] ∧ nxC xs = 28 ∧ nxE xs = 0) ∧
    (M = rqMagic → r.kd = 1 → 65536 < r.ln → nxR xs = rq0 ∧ nxD xs = [] ∧ nxC xs = 0 ∧ nxE xs = 82) ∧
    (M = rqMagic → r.kd = 1 → ¬ 65536 < r.ln → (n : Int) < 28 + r.ln → nxR xs = rq0 ∧ nxD xs = [] ∧ nxC xs = 0 ∧ nxE xs = 80) ∧
    (M = rqMagic → r.kd = 1 → ¬ 65536 < r.ln → ¬ (n : Int) < 28 + r.ln → nxR xs = r ∧ nxD xs = (xs.drop 28).take r.ln.toNat ∧ nxC xs = 28 + r.ln ∧ nxE xs = 0)) := ⟨f1, f2, f3, f4, f5⟩
  have HS : Hid (NextSt q w W3 (reqL rq0 none 0 0) A' (n - 28) (c - 28) ∧ r.Fits ∧ BIn w A' (n - 28) (xs.drop 28) ∧ (A' = none → n - 28 = 0 ∧ c - 28 = 0) ∧ n - 28 ≤ c - 28) := ⟨st3, hrf, left_bin H.out.1 (by omega) H.out.2.2.1 eA, left_nil (by omega) H.out.2.1 eA, by have := H.out.2.2.1; omega⟩
  clear ow ow3 hc hk hg hkC er eM eA hls f1 f2 f3 f4 f5 bl st3 hrf hW3 HW H0
  by_cases hMm : M = rqMagic
  · have HM : Hid (M = rqMagic) := hMm
    have hM' : (M != 627086611) = false := by rw [hMm]; rfl
    clear hMm
    go_wp2_with fail
    refine (request_of g 1 5 (C - 1) r W3 c1 c2 c3 c4 c5 HS.out.2.1).mono ?_
    rintro e W4 ⟨rfl, bl4⟩
    have S4 : Hid (NextSt q w W4 (reqL rq0 none 0 0) A' (n - 28) (c - 28)) := HS.out.1.below bl4
    clear bl4 c0 c1 c2 c3 c4 c5 hsl
    go_upto_region 7 with (refine wpList_store_req rfl (.tmp 2) (.tmp 19) rfl q r none 0 0 rfl rfl ?hT ?_; (case hT => exact S4.out.there); intro U hU; have S5 : Hid (NextSt q w U (reqL r none 0 0) A' (n - 28) (c - 28)) := (by subst hU; exact S4.out.put rfl); clear hU)
    have k1 : U.cell? ⟨q, 1, none⟩ = some (.int .u16 r.kd) := S5.out.req.cell 1
    by_cases hkd : r.kd = 1
    · have HK : Hid (r.kd = 1) := hkd
      rw [hkd] at k1
      clear hkd
      obtain ⟨Z, eZ⟩ : ∃ Z : Nat, (Z : Int) = r.ln := ⟨r.ln.toNat, by rw [Int.toNat_of_nonneg HS.out.2.1.2.2.2.2.1]⟩
      have k4 : U.cell? ⟨q, 4, none⟩ = some (.int .u32 (Z : Int)) := by rw [eZ]; exact S5.out.req.cell 4
      have HZ : Hid ((Z : Int) = r.ln) := eZ
      clear eZ
      by_cases hZ : 65536 < (Z : Int)
      · obtain ⟨r1, r2, r3, r4⟩ := HG.out.2.2.1 HM.out HK.out (by rw [← HZ.out]; exact hZ)
        have HR : Hid (R0 = rq0 ∧ D0 = [] ∧ C0 = 0 ∧ E0 = 82) := ⟨HF.out.1.trans r1, HF.out.2.1.trans r2, HF.out.2.2.1.trans r3, HF.out.2.2.2.trans r4⟩
        clear r1 r2 r3 r4
        go_wp2_with (refine wpList_store_req rfl (.tmp 2) (.tmp 26) rfl q rq0 none 0 0 rfl rfl ?hT ?_; (case hT => exact S5.out.there); intro X hX; have S6 : Hid (NextSt q w X (reqL rq0 none 0 0) A' (n - 28) (c - 28)) := (by subst hX; exact S5.out.put rfl); clear hX; have x1 : X.cell? ⟨q + 1, 0, none⟩ = some (.int .i64 0) := S6.out.cnt.cell 0; have x2 : X.cell? ⟨q + 2, 0, none⟩ = some (.int .u16 0) := S6.out.err.cell 0; have z1 := S6.out.cnt.frozen 0; have z2 := S6.out.err.frozen 0)
        obtain ⟨t1, t2, t3, t4⟩ := S6.out.told 0 82
        rw [HR.out.1, HR.out.2.1, HR.out.2.2.1, HR.out.2.2.2]
        exact next_told t1 t2 t3 t4 (bin_none _) (fun _ => ⟨rfl, rfl⟩) _ rfl rfl rfl
      · by_cases hZn : n - 28 < Z
        · obtain ⟨r1, r2, r3, r4⟩ := HG.out.2.2.2.1 HM.out HK.out (by rw [← HZ.out]; omega) (by rw [← HZ.out]; omega)
          have HR : Hid (R0 = rq0 ∧ D0 = [] ∧ C0 = 0 ∧ E0 = 80) := ⟨HF.out.1.trans r1, HF.out.2.1.trans r2, HF.out.2.2.1.trans r3, HF.out.2.2.2.trans r4⟩
          clear r1 r2 r3 r4
          go_wp2_with fail
          refine (data_few (q + 3) A' (n - 28) (c - 28) Z U (S5.out.left.cell 0) (by omega) (by omega) (by rw [IntKind.wrap_u64]; omega)).mono ?_
          rintro e U ⟨rfl, rfl⟩
          rw [HR.out.1, HR.out.2.1, HR.out.2.2.1, HR.out.2.2.2]
          exact next_died S5.out _ rfl rfl rfl
        · obtain ⟨r1, r2, r3, r4⟩ := HG.out.2.2.2.2 HM.out HK.out (by rw [← HZ.out]; omega) (by rw [← HZ.out]; omega)
          rw [← HZ.out] at r2 r3
          rw [Int.toNat_natCast] at r2
          have HR : Hid (R0 = r ∧ D0 = (xs.drop 28).take Z ∧ C0 = 28 + (Z : Int) ∧ E0 = 0) := ⟨HF.out.1.trans r1, HF.out.2.1.trans r2, HF.out.2.2.1.trans r3, HF.out.2.2.2.trans r4⟩
          clear r1 r2 r3 r4
          obtain ⟨B', eB⟩ : ∃ B', .slice B' (n - 28 - Z) (c - 28 - Z) = leftV A' (n - 28) (c - 28) Z := ⟨_, rfl⟩
          go_wp2_with fail
          refine (data_of (q + 3) A' (n - 28) (c - 28) Z (xs.drop 28) U (S5.out.left.cell 0) (S5.out.left.frozen 0) (HS.out.2.2.1.below (by rw [← H.out.2.2.2]; exact S5.out.bel)) HS.out.2.2.2.1 HS.out.2.2.2.2 (by omega) (by omega)).mono ?_
          rintro e U3 ⟨A2, C2, U2, rfl, bl6, rfl, ow6⟩
          have S6 : NextSt q w (U2.setCell ⟨q + 3, 0, none⟩ (leftV A' (n - 28) (c - 28) Z)) (reqL r none 0 0) B' (n - 28 - Z) (c - 28 - Z) := (S5.out.below bl6).leave' eB
          have o6 := ownsRow_setCell_below ow6 (a := ⟨q + 3, 0, none⟩) (by have := S5.out.size; show q + 3 < U.heap.size; omega) (leftV A' (n - 28) (c - 28) Z)
          generalize hU3 : World.setCell U2 _ _ = U3 at S6 o6 ⊢
          have hUs : q + 4 ≤ U.heap.size := S5.out.size
          have H6 : Hid (NextSt q w U3 (reqL r none 0 0) B' (n - 28 - Z) (c - 28 - Z) ∧ U3.ownsRow U.heap.size 5 1 (.slice A2 Z C2) Z (u8s ((xs.drop 28).take Z)) ∧ q + 4 ≤ U.heap.size) := ⟨S6, o6, hUs⟩
          have k5 : U3.cell? ⟨q, 5, none⟩ = some (.slice none 0 0) := S6.req.cell 5
          have z5 := S6.req.frozen 5
          clear ow6 bl6 eB S6 o6 hU3 hUs k1 k4
          obtain ⟨m, hm⟩ : ∃ m, m = n - 28 - Z := ⟨_, rfl⟩
          have hw : IntKind.i64.wrap ((n : Int) - (m : Int)) = C0 := by rw [HR.out.2.2.1, IntKind.wrap_i64]; omega
          have hZ6 : Z ≤ 65536 := by omega
          have HB : Hid (Z ≤ 65536) := hZ6
          go_upto_region 11 with fail
          have s7 : NextSt q w (U3.setCell ⟨q, 5, none⟩ (.slice A2 Z C2)) (reqL r A2 Z C2) B' (n - 28 - Z) (c - 28 - Z) := H6.out.1.data
          have o7 := ownsRow_setCell_below H6.out.2.1 (a := ⟨q, 5, none⟩) (by have := H6.out.2.2; show q < U.heap.size; omega) (.slice A2 Z C2)
          generalize hX : World.setCell U3 _ _ = X at s7 o7 ⊢
          rw [← hm] at s7
          have HX : Hid (NextSt q w X (reqL r A2 Z C2) B' m (c - 28 - Z) ∧ X.ownsRow U.heap.size 5 1 (.slice A2 Z C2) Z (u8s ((xs.drop 28).take Z)) ∧ q + 4 ≤ U.heap.size) := ⟨s7, o7, H6.out.2.2⟩
          clear s7 o7 hX k5 z5 hm hZ hZn hZ6 h28
          have e0 : X.cell? ⟨q, 0, none⟩ = some (.int .u16 r.fl) := HX.out.1.req.cell 0
          have e1 : X.cell? ⟨q, 1, none⟩ = some (.int .u16 r.kd) := HX.out.1.req.cell 1
          have e2 : X.cell? ⟨q, 2, none⟩ = some (.int .u64 r.ck) := HX.out.1.req.cell 2
          have e3 : X.cell? ⟨q, 3, none⟩ = some (.int .u64 r.ofs) := HX.out.1.req.cell 3
          have e4 : X.cell? ⟨q, 4, none⟩ = some (.int .u32 r.ln) := HX.out.1.req.cell 4
          have e5 : X.cell? ⟨q, 5, none⟩ = some (.slice A2 Z C2) := HX.out.1.req.cell 5
          have z0 := HX.out.1.req.frozen 0
          have z1 := HX.out.1.req.frozen 1
          have z2 := HX.out.1.req.frozen 2
          have z3 := HX.out.1.req.frozen 3
          have z4 := HX.out.1.req.frozen 4
          have z5 := HX.out.1.req.frozen 5
          have x1 : X.cell? ⟨q + 1, 0, none⟩ = some (.int .i64 0) := HX.out.1.cnt.cell 0
          have x2 : X.cell? ⟨q + 2, 0, none⟩ = some (.int .u16 0) := HX.out.1.err.cell 0
          have x3 : X.cell? ⟨q + 3, 0, none⟩ = some (.slice B' (m : Nat) (c - 28 - Z)) := HX.out.1.left.cell 0
          have y1 := HX.out.1.cnt.frozen 0
          have y2 := HX.out.1.err.frozen 0
          clear hn
          refine wp_region_noPanic ?_
          go_region
          refine NoPanic.normal ?_
          go_wp2
          rw [HR.out.1, HR.out.2.1, HR.out.2.2.2]
          obtain ⟨t1, t2, t3, t4⟩ := (HX.out.1.put6 r A2 Z C2).toldD C0 0
          have o9 := own_toldD (q := q) (own_six HX.out.2.1 (q := q) (by have := HX.out.2.2; omega) r A2 Z C2) (by have := HX.out.2.2; omega) C0 0
          exact next_told t1 t2 t3 t4 (own_bin o9 (by have := HB.out; unfold maxLen; omega) (fun z hz => H.out.1.2.2.1 z (List.mem_of_mem_drop (List.mem_of_mem_take hz)))) (own_nil HX.out.2.1) _ rfl rfl rfl
    · have HK : Hid (r.kd ≠ 1) := hkd
      have hk' : (r.kd == 1) = false := by simp [hkd]
      obtain ⟨r1, r2, r3, r4⟩ := HG.out.2.1 HM.out hkd
      have HR : Hid (R0 = r ∧ D0 = [] ∧ C0 = 28 ∧ E0 = 0) := ⟨HF.out.1.trans r1, HF.out.2.1.trans r2, HF.out.2.2.1.trans r3, HF.out.2.2.2.trans r4⟩
      clear r1 r2 r3 r4 hkd
      obtain ⟨m, hm⟩ : ∃ m, m = n - 28 := ⟨_, rfl⟩
      have hw : IntKind.i64.wrap ((n : Int) - (m : Int)) = C0 := by rw [HR.out.2.2.1, IntKind.wrap_i64]; omega
      rw [← hm] at S5
      clear hm h28
      go_upto_region 11 with fail
      clear k1
      have e0 : U.cell? ⟨q, 0, none⟩ = some (.int .u16 r.fl) := S5.out.req.cell 0
      have e1 : U.cell? ⟨q, 1, none⟩ = some (.int .u16 r.kd) := S5.out.req.cell 1
      have e2 : U.cell? ⟨q, 2, none⟩ = some (.int .u64 r.ck) := S5.out.req.cell 2
      have e3 : U.cell? ⟨q, 3, none⟩ = some (.int .u64 r.ofs) := S5.out.req.cell 3
      have e4 : U.cell? ⟨q, 4, none⟩ = some (.int .u32 r.ln) := S5.out.req.cell 4
      have e5 : U.cell? ⟨q, 5, none⟩ = some (.slice none 0 0) := S5.out.req.cell 5
      have z0 := S5.out.req.frozen 0
      have z1 := S5.out.req.frozen 1
      have z2 := S5.out.req.frozen 2
      have z3 := S5.out.req.frozen 3
      have z4 := S5.out.req.frozen 4
      have z5 := S5.out.req.frozen 5
      have x1 : U.cell? ⟨q + 1, 0, none⟩ = some (.int .i64 0) := S5.out.cnt.cell 0
      have x2 : U.cell? ⟨q + 2, 0, none⟩ = some (.int .u16 0) := S5.out.err.cell 0
      have x3 : U.cell? ⟨q + 3, 0, none⟩ = some (.slice A' (m : Nat) (c - 28)) := S5.out.left.cell 0
      have y1 := S5.out.cnt.frozen 0
      have y2 := S5.out.err.frozen 0
      clear hn
      refine wp_region_noPanic ?_
      go_region
      refine NoPanic.normal ?_
      go_wp2
      rw [HR.out.1, HR.out.2.1, HR.out.2.2.2]
      obtain ⟨t1, t2, t3, t4⟩ := (S5.out.put6 r none 0 0).toldD C0 0
      exact next_told t1 t2 t3 t4 (bin_none _) (fun _ => ⟨rfl, rfl⟩) _ rfl rfl rfl
  · obtain ⟨r1, r2, r3, r4⟩ := HG.out.1 hMm
    have HR : Hid (R0 = rq0 ∧ D0 = [] ∧ C0 = 0 ∧ E0 = 81) := ⟨HF.out.1.trans r1, HF.out.2.1.trans r2, HF.out.2.2.1.trans r3, HF.out.2.2.2.trans r4⟩
    clear r1 r2 r3 r4
    have hM' : (M != 627086611) = true := by unfold rqMagic at hMm; simp [hMm]
    clear hMm
    go_wp2_with (refine wpList_store_req rfl (.tmp 2) (.tmp 16) rfl q rq0 none 0 0 rfl rfl ?hT ?_; (case hT => exact HS.out.1.there); intro U hU; have S5 : Hid (NextSt q w U (reqL rq0 none 0 0) A' (n - 28) (c - 28)) := (by subst hU; exact HS.out.1.put rfl); clear hU; have k1 : U.cell? ⟨q + 1, 0, none⟩ = some (.int .i64 0) := S5.out.cnt.cell 0; have k2 : U.cell? ⟨q + 2, 0, none⟩ = some (.int .u16 0) := S5.out.err.cell 0; have z1 := S5.out.cnt.frozen 0; have z2 := S5.out.err.frozen 0)
    obtain ⟨t1, t2, t3, t4⟩ := S5.out.told 0 81
    rw [HR.out.1, HR.out.2.1, HR.out.2.2.1, HR.out.2.2.2]
    exact next_told t1 t2 t3 t4 (bin_none _) (fun _ => ⟨rfl, rfl⟩) _ rfl rfl rfl
end Go.Proofs.Ytlfmdplaoalahaa
