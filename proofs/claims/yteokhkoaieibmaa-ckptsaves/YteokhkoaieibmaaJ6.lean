/- Texts of this seat, one behind the other: WTakeP, WTakeS, WTake, WKnown. -/
import Derived.Test.YteokhkoaieibmaaJ5
import Derived.Defers
import Derived.Recover
import Derived.Deep.RegionLaw
import Derived.Deep.RegionHeld
import Derived.Deep.RegionHeld3
import Derived.BigQuiet
/- What Take's deferred function does. -/
namespace Go.Proofs.Yteokhkoaieibmaa
open Go.RowKit
set_option linter.unusedVariables false
set_option maxRecDepth 4000

theorem catch_idle (p q r : Addr) (w : World) :
    CallsD Try.prog 90 #[.pointer (some p), .pointer (some q), .pointer (some r)] .returning w fun e u' w' => e = .returned (.tuple #[]) ∧ u' = .returning ∧ w' = w := by
  refine callsD_of_wpS Try.func90 rfl fun c₀ cs hu => ?_
  apply wpS_seq
  apply wpS_region
  simp [wpOpsS, go_sem, recoverD, hu, Try.ntmps90, Exit.thenS]
  refine wpS_cond (t := false) (by simp [Act.eval, Array.replicate]) ?_
  simp only [Bool.false_eq_true, if_false]
  refine wpS_of_wp (wp_skip ?_)
  cases c₀
  simp_all [bodyPostS, results, Try.results90]
theorem catch_panicking (g : Nat) (u : TypeId) (pv : Value) (older : List PanicEntry) (w : World) (v0 v1 v2 : Value)
    (hp : w.cell? ⟨g, 0, none⟩ = some v0) (hq : w.cell? ⟨g + 1, 0, none⟩ = some v1) (hr : w.cell? ⟨g + 2, 0, none⟩ = some v2) (zp : w.frozen? ⟨g, 0, none⟩ = false) (zq : w.frozen? ⟨g + 1, 0, none⟩ = false) (zr : w.frozen? ⟨g + 2, 0, none⟩ = false) :
    CallsD Try.prog 90 #[.pointer (some ⟨g, 0, none⟩), .pointer (some ⟨g + 1, 0, none⟩), .pointer (some ⟨g + 2, 0, none⟩)] (.panicking ({ v := .iface u pv, recovered := false } :: older)) w fun e u' w' =>
      e = .returned (.tuple #[]) ∧ u' = .panicking ({ v := .iface u pv, recovered := true } :: older) ∧ w' = ((w.setCell ⟨g, 0, none⟩ (.slice none 0 0)).setCell ⟨g + 1, 0, none⟩ (.slice none 0 0)).setCell ⟨g + 2, 0, none⟩ (.bool false) := by
  refine callsD_of_wpS Try.func90 rfl fun c₀ cs hu => ?_
  apply wpS_seq
  apply wpS_region
  simp [wpOpsS, go_sem, recoverD, hu, Try.ntmps90, Exit.thenS]
  refine wpS_cond (t := true) (by simp [Act.eval, Array.replicate]) ?_
  simp only [if_true]
  apply wpS_region
  simp [wpOpsS, go_sem, hp, hq, hr, zp, zq, zr, bodyPostS, results, Try.results90]

end Go.Proofs.Yteokhkoaieibmaa

/- What one call of wire's Take does. -/
namespace Go.Proofs.Yteokhkoaieibmaa
open Go.RowKit
set_option linter.unusedVariables false
set_option maxRecDepth 4000

/-- Appending numbers of a kind to a row of the call's own, as a step of a region that draws its order. -/
theorem step_append_nin {k : IntKind} {e t : TypeId} {size : Nat} (ht : Try.prog.underlying t = some (.slice e)) (hinfo : (Try.prog.info? e).map (fun i => (i.zero, i.size, i.bytes)) = some (some (.int k 0), 1, size)) (hsz : size ≤ 8)
    {ops : Array Oper} {o : Oper} {a : Act} {w : World} {K : Act → World → Prop} {Q : Exit → Act → World → Prop} {E : Prop} (hg : o.guard = none) (s x : Operand)
    (hop : o.op = .call { callee := .builtin .append, args := #[s, x], argTypes := #[t, t] }) (base : Nat)
    (a0 : Option Addr) (n0 c0 : Nat) (xs : List Int) (hs : a.eval s = .slice a0 n0 c0) (hown : w.ownsRow base e 1 (.slice a0 n0 c0) n0 (kInts k xs))
    (a1 : Option Addr) (n1 c1 : Nat) (zs : List Int) (hx : a.eval x = .slice a1 n1 c1) (hin : NIn k w a1 n1 zs) (hnil : a1 = none → n1 = 0 ∧ c1 = 0)
    (hle : n0 + n1 ≤ 1000000) (hbase : base ≤ w.heap.size)
    (hK : ∀ a' c' w', w'.ownsRow base e 1 (.slice a' (n0 + n1) c') (n0 + n1) (kInts k (xs ++ zs)) → Below base w w' → K (a.put o.dst (.slice a' (n0 + n1) c')) w') :
    if Region.wanted o (yielded ops a.tmps) = true then Oper.wp Try.prog o a w K Q else E := by
  have hw : Region.wanted o (yielded ops a.tmps) = true := by simp [Region.wanted, hg]
  rw [if_pos hw]
  obtain ⟨i0, hi, hz0, hz1, hz2⟩ := info_parts hinfo
  obtain ⟨hl, hm, hfit, hcell⟩ := hin
  cases a1 with
  | none =>
    obtain ⟨rfl, rfl⟩ := hnil rfl
    have : zs = [] := List.length_eq_zero_iff.1 hl
    subst this
    have hrun := run_append_owned_none (P := Try.prog) (w := w) base t o.type e i0 1 ht hi _ n0 (kInts k xs) hown
    unfold Oper.wp
    simp [execOp, hop, resolve, invoke, builtin, hs, hx, hrun, Result.andThen]
    have := hK a0 c0 w (by simpa using hown) (Below.refl _ _)
    exact this
  | some ad =>
    have hle' := Nat.mul_le_mul hle hsz
    obtain ⟨v', w', hrun, hown', hgrow, _⟩ := run_append_own (P := Try.prog) w base t o.type e i0 (.int k 0) 1 size ht hi hz0 hz1 hz2 rfl (by decide) _ n0 (kInts k xs) hown ad n1 c1 (kInts k zs) (by simp [kInts, hl]) (by
      intro j u hj
      have hjl : j < n1 := by
        have := (List.getElem?_eq_some_iff.1 hj).1
        rwa [kInts_length, hl] at this
      rcases hcell with hc | ⟨b, off, ha, hc⟩
      · omega
      · cases ha
        rw [Addr.add_mid, hc j hjl, ← hj]
        simp [kInts, List.getD, hl, hjl]) (kInts_one _ _) (by unfold maxLen; omega) (by omega) hbase
    have hb : Below base w w' := (Below.refl base w).grown hgrow hbase (fun k hk => (hown.lt k hk).1)
    have hcat : kInts k xs ++ kInts k zs = kInts k (xs ++ zs) := by simp [kInts]
    rw [hcat] at hown'
    obtain ⟨a', c', rfl⟩ : ∃ a' c', v' = .slice a' (n0 + n1) c' := by
      rcases hown'.2 with ⟨hv, hn⟩ | ⟨g, cap, cur, hv, _⟩
      · exact ⟨none, 0, by rw [hv, hn]⟩
      · exact ⟨_, _, hv⟩
    unfold Oper.wp
    simp [execOp, hop, resolve, invoke, builtin, hs, hx, hrun, Result.andThen]
    exact hK a' c' w' hown' hb

/-- Take's own variables, behind j numbers: the numbers so far, what is left. -/
structure TakeSt (q : Nat) (w wr : World) (A : Option Addr) (j C : Nat) (vs : List Int) (L : Option Addr) (n c : Nat) (ys : List Int) : Prop where
  vals : Blk wr q [.slice A j C] 86
  rest : Blk wr (q + 1) [.slice none 0 0] 39
  flag : Blk wr (q + 2) [.bool false] 4
  left : Blk wr (q + 3) [.slice L n c] 144
  own : wr.ownsRow (q + 4) 24 1 (.slice A j C) j (kInts .u64 vs)
  bin : BIn w L n ys
  nil : L = none → n = 0 ∧ c = 0
  cap : n ≤ c
  bel : Below q w wr
  size : q + 4 ≤ wr.heap.size
  heap : q = w.heap.size
theorem TakeSt.binr {q : Nat} {w wr : World} {A : Option Addr} {j C : Nat} {vs : List Int} {L : Option Addr} {n c : Nat} {ys : List Int} (h : TakeSt q w wr A j C vs L n c ys) : BIn wr L n ys := h.bin.below (by rw [← h.heap]; exact h.bel)
theorem TakeSt.drew {q : Nat} {w wr : World} {A : Option Addr} {j C : Nat} {vs : List Int} {L : Option Addr} {n c : Nat} {ys : List Int} (h : TakeSt q w wr A j C vs L n c ys) : TakeSt q w wr.drew A j C vs L n c ys :=
  ⟨h.vals.drew, h.rest.drew, h.flag.drew, h.left.drew, h.own.drew, h.bin, h.nil, h.cap, h.bel.drew, h.size, h.heap⟩
/-- One more number was taken off: what is left is less. -/
theorem TakeSt.took {q : Nat} {w wr : World} {A : Option Addr} {j C : Nat} {vs : List Int} {L : Option Addr} {n c : Nat} {ys : List Int} (h : TakeSt q w wr A j C vs L n c ys) (k : Nat) (h1 : 1 ≤ k) (hk : k ≤ n) :
    ∃ L', sliced L k n c 1 = .slice L' (n - k) (c - k) ∧ TakeSt q w (wr.setCell ⟨q + 3, 0, none⟩ (.slice L' (n - k) (c - k))) A j C vs L' (n - k) (c - k) (ys.drop k) := by
  obtain ⟨L', e, hb, hn⟩ := sliced_bin h.bin hk h.cap
  have hne : L ≠ none := fun e => by have := h.nil e; omega
  refine ⟨L', e, h.vals.set_other (by show q ≠ q + 3; omega) _, h.rest.set_other (by show q + 1 ≠ q + 3; omega) _, h.flag.set_other (by show q + 2 ≠ q + 3; omega) _, ?_, ownsRow_setCell_below h.own (by show q + 3 < q + 4; omega) _, hb, fun e => absurd e (hn hne), by have := h.cap; omega, h.bel.setCell (by show q ≤ q + 3; omega) _, ?_, h.heap⟩
  · exact h.left.set 0 _
  · have := h.size; simpa [World.setCell] using this
/-- One more number stands behind those so far. -/
theorem TakeSt.more {q : Nat} {w wr w' : World} {A A' : Option Addr} {j j' C C' : Nat} {vs vs' : List Int} {L : Option Addr} {n c : Nat} {ys : List Int} (h : TakeSt q w wr A j C vs L n c ys)
    (ho : w'.ownsRow (q + 4) 24 1 (.slice A' j' C') j' (kInts .u64 vs')) (hb : Below (q + 4) wr w') : TakeSt q w (w'.setCell ⟨q, 0, none⟩ (.slice A' j' C')) A' j' C' vs' L n c ys := by
  refine ⟨(h.vals.below hb (by omega)).set 0 _, (h.rest.below hb (by omega)).set_other (by show q + 1 ≠ q; omega) _, (h.flag.below hb (by omega)).set_other (by show q + 2 ≠ q; omega) _, (h.left.below hb (by omega)).set_other (by show q + 3 ≠ q; omega) _, ownsRow_setCell_below ho (by show q < q + 4; omega) _, h.bin, h.nil, h.cap, (h.bel.trans (hb.mono (by omega))).setCell (Nat.le_refl _) _, ?_, h.heap⟩
  have := h.size
  have := hb.size
  simp [World.setCell]
  omega
end Go.Proofs.Yteokhkoaieibmaa

/- What one call of wire's Take does. -/
namespace Go.Proofs.Yteokhkoaieibmaa
open Go.RowKit
set_option linter.unusedVariables false
set_option maxRecDepth 4000

/-- What Take tells: numbers, what stands behind them. -/
def takeV (xs ws : List Int) : List Int := if offL ws ≤ xs.length then valL xs ws else []
def takeR (xs ws : List Int) : List Int := if offL ws ≤ xs.length then xs.drop (offL ws) else []
theorem sizes4 (w : World) (a b c d : Obj) : ((((w.alloc a).alloc b).alloc c).alloc d).heap.size = w.heap.size + 4 := by simp
theorem take_start (q : Nat) (w : World) (hq : q = w.heap.size) (L : Option Addr) (n c : Nat) (ys : List Int) (hb : BIn w L n ys) (hnil : L = none → n = 0 ∧ c = 0) (hc : n ≤ c) :
    TakeSt q w ((((w.alloc (.cells #[.slice none 0 0] 86)).alloc (.cells #[.slice none 0 0] 39)).alloc (.cells #[.bool false] 4)).alloc (.cells #[.slice L n c] 144)) none 0 0 [] L n c ys := by
  subst hq
  refine ⟨?_, ?_, ?_, ?_, World.ownsRow_nil _ _ _ _, hb, hnil, hc, ?_, by rw [sizes4]; exact Nat.le_refl _, rfl⟩
  · exact (((Blk.new' rfl rfl).alloc _).alloc _).alloc _
  · exact ((Blk.new' (by simp) rfl).alloc _).alloc _
  · exact (Blk.new' (by simp) rfl).alloc _
  · exact Blk.new' (by simp) rfl
  · exact ((((Below.refl _ _).alloc (Nat.le_refl _) _).alloc (by simp) _).alloc (by simp; omega) _).alloc (by simp; omega) _

theorem own_belowN {t : TypeId} {w w' : World} {base B : Nat} {v : Value} {n : Nat} {zs : List Value} (h : w.ownsRow base t 1 v n zs) (hb : Below B w w') (hs : w.heap.size ≤ B) : w'.ownsRow base t 1 v n zs := by
  refine ⟨h.1, ?_⟩
  rcases h.2 with h2 | ⟨g, cap, cur, hv, hbg, hg, hr⟩
  · exact .inl h2
  · exact .inr ⟨g, cap, cur, hv, hbg, by rw [hb.block g (Nat.lt_of_lt_of_le (Array.getElem?_eq_some_iff.1 hg).1 hs)]; exact hg, hr⟩
theorem put_other (a : Act) (v : Value) {d s : Nat} (h : d ≠ s) : (a.put (some d) v).tmps.getD s undef = a.tmps.getD s undef := by
  simp [Act.put, Array.getD_eq_getD_getElem?, h]
/-- Take's body panicked in this world, for want of bytes; its deferred call is laid. -/
def Died (q : Nat) (W : World) (e : Exit) (a : Act) (w : World) : Prop :=
  e = .panic [{ v := .iface 9 (.string tooFew), recovered := false }] ∧ w = W ∧ a.defers = [{ target := .fn (.func 90) #[.pointer (some ⟨q, 0, none⟩), .pointer (some ⟨q + 1, 0, none⟩), .pointer (some ⟨q + 2, 0, none⟩)], args := #[] }] ∧ a.tmps.getD 4 undef = .pointer (some ⟨q, 0, none⟩) ∧ a.tmps.getD 5 undef = .pointer (some ⟨q + 1, 0, none⟩) ∧ a.tmps.getD 6 undef = .pointer (some ⟨q + 2, 0, none⟩)
theorem Died.put {q : Nat} {W : World} {e : Exit} {a : Act} {w : World} {v : Value} {d : Nat} (hd : 6 < d) (h : Died q W e (a.put (some d) v) w) : Died q W e a w := by
  obtain ⟨h1, h2, h3, h4, h5, h6⟩ := h
  rw [put_other _ _ (by omega)] at h4 h5 h6
  exact ⟨h1, h2, h3, h4, h5, h6⟩
theorem take_results (q : Nat) (tmps : Array Value) (w : World) (v0 v1 v2 : Value) (h4 : tmps.getD 4 undef = .pointer (some ⟨q, 0, none⟩)) (h5 : tmps.getD 5 undef = .pointer (some ⟨q + 1, 0, none⟩)) (h6 : tmps.getD 6 undef = .pointer (some ⟨q + 2, 0, none⟩))
    (c0 : w.cell? ⟨q, 0, none⟩ = some v0) (c1 : w.cell? ⟨q + 1, 0, none⟩ = some v1) (c2 : w.cell? ⟨q + 2, 0, none⟩ = some v2) :
    (results Try.f84 tmps).run Try.prog w = .ok (.tuple #[v0, v1, v2]) w := by
  have k4 : tmps[4]?.getD undef = .pointer (some ⟨q, 0, none⟩) := by simpa using h4
  have k5 : tmps[5]?.getD undef = .pointer (some ⟨q + 1, 0, none⟩) := by simpa using h5
  have k6 : tmps[6]?.getD undef = .pointer (some ⟨q + 2, 0, none⟩) := by simpa using h6
  simp [results, Try.results84, go_sem, k4, k5, k6, c0, c1, c2]
set_option maxHeartbeats 2000000 in
theorem take_of (a : Option Addr) (n c : Nat) (xs : List Int) (b : Option Addr) (m d : Nat) (ws : List Int) (w : World) (hx : BIn w a n xs) (hnil : a = none → n = 0 ∧ c = 0) (hnc : n ≤ c) (hy : NIn .i64 w b m ws) (hn : n ≤ 100000) (hm : m ≤ 100000) :
    Calls Try.prog 84 #[.slice a n c, .slice b m d] w fun e w' => ∃ A k C R r D, e = .returned (.tuple #[.slice A k C, .slice R r D, .bool (decide (offL ws ≤ xs.length))]) ∧ w'.ownsRow w.heap.size 24 1 (.slice A k C) k (kInts .u64 (takeV xs ws)) ∧ w'.ownsRow w.heap.size 5 1 (.slice R r D) r (u8s (takeR xs ws)) ∧ Below w.heap.size w w' := by
  have hmf : ∀ (fn : Fn) (first cap : Array Value) (w : World), (Instr.makeFunc fn first cap).run Try.prog w = .ok (.func fn first cap) w := fun _ _ _ _ => rfl
  obtain ⟨q, hq⟩ : ∃ q, q = w.heap.size := ⟨_, rfl⟩
  have hst := take_start q w hq a n c xs hx hnil hnc
  have H : Hid (BIn w a n xs ∧ NIn .i64 w b m ws ∧ q = w.heap.size) := ⟨hx, hy, hq⟩
  have H0 : Hid (TakeSt q w ((((w.alloc (.cells #[.slice none 0 0] 86)).alloc (.cells #[.slice none 0 0] 39)).alloc (.cells #[.bool false] 4)).alloc (.cells #[.slice a n c] 144)) none 0 0 [] a n c xs) := hst
  clear hx hy hst hnil hnc
  go_enter_defers Try.func84, Try.ntmps84
  go_wp2
  rw [← hq]
  clear hq
  generalize hW : World.alloc (World.alloc (World.alloc (World.alloc w _) _) _) _ = W
  rw [hW] at H0
  clear hW
  have e2 : q + 1 + 1 = q + 2 := rfl
  have e3 : q + 1 + 1 + 1 = q + 3 := rfl
  rw [e3, e2]
  clear e2 e3
  go_loopw [15] (fun i wr => ∃ (j : Nat) (A : Option Addr) (C : Nat) (L : Option Addr) (n' c' : Nat), j ≤ m ∧ i = .int .i64 j ∧ offL (ws.take j) + n' = n ∧ TakeSt q w wr A j C (valL xs (ws.take j)) L n' c' (xs.drop (offL (ws.take j))))
    (fun i _ => m - (intOf i).toNat)
  case atStart => exact ⟨0, none, 0, a, n, c, by omega, rfl, by simp [offL], by simpa [offL, valL] using H0.out⟩
  case round =>
    obtain ⟨j, A, C, L, n', c', hj, rfl, hoff, st⟩ := hrel
    by_cases hlt : j < m
    · have hlt' : (j : Int) < m := by omega
      obtain ⟨b1, o1, rfl, hc1⟩ := H.out.2.1.2.2.2.resolve_left (by omega)
      have cw : wr.cell? ⟨b1, o1 + j, none⟩ = some (.int .i64 (ws.getD j 0)) := by rw [st.bel.cell (by rw [H.out.2.2]; exact old_block (hc1 j (by omega)))]; exact hc1 j (by omega)
      have hnx := take_next ws (i := j) (by rw [H.out.2.1.1]; omega)
      clear hc1
      obtain ⟨X, eX⟩ : ∃ X, X = ws.getD j 0 := ⟨_, rfl⟩
      rw [← eX] at cw hnx
      have HX : Hid (ws.take (j + 1) = ws.take j ++ [X] ∧ offL (ws.take j) + n' = n) := ⟨hnx, hoff⟩
      clear eX hnx hoff
      obtain ⟨K, hK⟩ : ∃ K, K = wd X := ⟨_, rfl⟩
      have cS := size_of X wr.drew
      have hw8 := wd_le X
      have hw1 := wd_pos X
      rw [← hK] at cS hw8 hw1
      have HK : Hid (K = wd X) := hK
      clear hK
      have HT : Hid (TakeSt q w wr A j C (valL xs (ws.take j)) L n' c' (xs.drop (offL (ws.take j)))) := st
      clear st
      go_wp2
      by_cases hen : K ≤ n'
      · have cN := number_of (q + 3) L n' c' K _ wr.drew (HT.out.drew.left.cell 0) (HT.out.drew.left.frozen 0) HT.out.drew.binr hw1 hen hw8 HT.out.cap
        obtain ⟨L', eL, st'⟩ := HT.out.drew.took K hw1 hen
        rw [eL] at cN
        have HN : Hid (TakeSt q w (wr.drew.setCell ⟨q + 3, 0, none⟩ (.slice L' (n' - K) (c' - K))) A j C (valL xs (ws.take j)) L' (n' - K) (c' - K) ((xs.drop (offL (ws.take j))).drop K)) := st'
        have v1 : wr.cell? ⟨q, 0, none⟩ = some (.slice A j C) := HT.out.vals.cell 0
        clear st' eL
        have hNf : FitsU (numI (((xs.drop (offL (ws.take j)))).take K)) := numI_u64 (by rw [List.length_take]; omega) (fun z hz => H.out.1.2.2.1 z (List.mem_of_mem_drop (List.mem_of_mem_take hz)))
        obtain ⟨N, eN⟩ : ∃ N, N = numI (((xs.drop (offL (ws.take j)))).take K) := ⟨_, rfl⟩
        rw [← eN] at cN hNf
        generalize hY : World.setCell (World.drew wr) _ _ = Y at cN HN
        have v0 : Y.cell? ⟨q, 0, none⟩ = some (.slice A j C) := HN.out.vals.cell 0
        have v2 : ∀ o, (Y.alloc o).cell? ⟨q, 0, none⟩ = some (.slice A j C) := fun o => (HN.out.vals.alloc o).cell 0
        have HV : Hid (N = numI (((xs.drop (offL (ws.take j)))).take K) ∧ FitsU N ∧ K ≤ n') := ⟨eN, hNf, hen⟩
        clear eN hNf hen hY
        refine wp_region_noPanic ?_
        go_region_law (first
          | (go_simp; go_at_call 82; refine cS.mono ?_; rintro e w1 ⟨rfl, rfl⟩)
          | (go_simp; go_at_call 91; refine cN.mono ?_; rintro e Y ⟨rfl, rfl⟩)
          | (refine step_append_nin (k := .u64) (size := 8) Try.underlying86 Try.zero_u64 (by decide) rfl (.tmp 19) (.tmp 23) rfl (q + 4) A j C (valL xs (ws.take j)) rfl (HN.out.own.alloc _) (some ⟨Y.heap.size, 0, none⟩) 1 1 [N] rfl (new_nin rfl rfl rfl (by intro z hz; simp only [List.mem_cons, List.not_mem_nil, or_false] at hz; subst hz; exact wfU HV.out.2.1) (by unfold maxLen; omega)) (fun h => by cases h) (by omega) (by have := HN.out.size; simp; omega) ?_; intro A2 C2 w2 ow2 bl2; have b2 : Below (q + 4) Y w2 := ((Below.refl _ _).alloc HN.out.size _).trans bl2; have k2 : w2.cell? ⟨q, 0, none⟩ = some (.slice A j C) := (HN.out.vals.below b2 (by omega)).cell 0; have f2 : w2.frozen? ⟨q, 0, none⟩ = false := (HN.out.vals.below b2 (by omega)).frozen 0))
        all_goals (
          have HZ : Hid (TakeSt q w (w2.setCell ⟨q, 0, none⟩ (.slice A2 (j + 1) C2)) A2 (j + 1) C2 (valL xs (ws.take (j + 1))) L' (n' - K) (c' - K) (xs.drop (offL (ws.take (j + 1))))) := by
            have e1 : valL xs (ws.take (j + 1)) = valL xs (ws.take j) ++ [N] := by rw [HX.out.1, valL_snoc, HV.out.1, HK.out]
            have e2 : xs.drop (offL (ws.take (j + 1))) = (xs.drop (offL (ws.take j))).drop K := by rw [HX.out.1, offL_snoc, List.drop_drop, HK.out]
            rw [← e1] at ow2
            rw [e2]
            exact HN.out.more ow2 b2
          clear ow2 bl2 b2 k2 f2
          refine NoPanic.normal ?_
          go_wp2
          go_roundw
          case rel => exact ⟨j + 1, A2, C2, L', n' - K, c' - K, by omega, by go_num, by rw [HX.out.1, offL_snoc, ← HK.out]; have := HX.out.2; have := HV.out.2.2; omega, HZ.out⟩
          case measure => simp [intOf]; omega)
      · have cF := number_few (q + 3) L n' c' K wr.drew (HT.out.drew.left.cell 0) (by omega)
        have v1 : wr.cell? ⟨q, 0, none⟩ = some (.slice A j C) := HT.out.vals.cell 0
        have HV : Hid (n' < K) := by show n' < K; omega
        clear hen
        refine Code.wp_mono (Q := Died q wr.drew) ?_ ?_
        · rintro e ⟨tmps, defers⟩ w' ⟨rfl, rfl, h3, h4, h5, h6⟩
          dsimp only at h3 h4 h5 h6
          subst h3
          show Leaves Try.prog Try.f84 tmps _ _ _ _
          refine leaves_cons (f := 90) (args := #[.pointer (some ⟨q, 0, none⟩), .pointer (some ⟨q + 1, 0, none⟩), .pointer (some ⟨q + 2, 0, none⟩)]) (by simp) (by simp [go_sem]) ?_
          have st := HT.out.drew
          refine (catch_panicking q 9 _ [] _ _ _ _ (st.vals.cell 0) (st.rest.cell 0) (st.flag.cell 0) (st.vals.frozen 0) (st.rest.frozen 0) (st.flag.frozen 0)).mono ?_
          rintro e u' w'' ⟨rfl, rfl, rfl⟩
          have k0 := ((st.vals.set 0 (.slice none 0 0)).set_other (a := ⟨q + 1, 0, none⟩) (by show q ≠ q + 1; omega) (.slice none 0 0)).set_other (a := ⟨q + 2, 0, none⟩) (by show q ≠ q + 2; omega) (.bool false)
          have k1 := ((st.rest.set_other (a := ⟨q, 0, none⟩) (by show q + 1 ≠ q; omega) (.slice none 0 0)).set 0 (.slice none 0 0)).set_other (a := ⟨q + 2, 0, none⟩) (by show q + 1 ≠ q + 2; omega) (.bool false)
          have k2 := ((st.flag.set_other (a := ⟨q, 0, none⟩) (by show q + 2 ≠ q; omega) (.slice none 0 0)).set_other (a := ⟨q + 1, 0, none⟩) (by show q + 2 ≠ q + 1; omega) (.slice none 0 0)).set 0 (.bool false)
          refine ⟨_, take_results q tmps _ _ _ _ h4 h5 h6 (k0.cell 0) (k1.cell 0) (k2.cell 0), none, 0, 0, none, 0, 0, ?_⟩
          · have hno : ¬ offL ws ≤ xs.length := by
              have h1 := offL_take ws (j + 1)
              rw [HX.out.1, offL_snoc, ← HK.out] at h1
              have h2 := HX.out.2
              have h3 := HV.out
              rw [H.out.1.1]
              omega
            rw [show takeV xs ws = [] by unfold takeV; rw [if_neg hno], show takeR xs ws = [] by unfold takeR; rw [if_neg hno], decide_eq_false hno]
            refine ⟨rfl, World.ownsRow_nil _ _ _ _, World.ownsRow_nil _ _ _ _, ?_⟩
            rw [← H.out.2.2]
            exact ((st.bel.setCell (Nat.le_refl _) _).setCell (by show q ≤ q + 1; omega) _).setCell (by show q ≤ q + 2; omega) _
        · refine wp_region_held_drew (S := fun w' => w' = wr.drew) (by kernel_rfl) rfl (fun hS => ?_)
          refine wpAnyH_take (i := 0) (oi := { dst := some 19, op := Op.load 86 (Operand.tmp 4), type := 86, pos := "wire.go:30", after := #[], guard := none }) (v := .slice A j C) rfl (by kernel_rfl) (by kernel_rfl) (by kernel_rfl) (fun _ _ _ h => Died.put (by decide) h) (Or.inl ⟨by rfl, fun w hw => by subst hw; go_simp⟩) hS ?_
          simp only [Act.put, List.setIfInBounds_toArray, List.set_cons_zero, List.set_cons_succ]
          refine wpAnyH_take (i := 1) (oi := { dst := some 20, op := Op.move (Operand.tmp 9), type := 3, pos := "wire.go:30", after := #[], guard := none }) (v := .int .i64 X) rfl (by kernel_rfl) (by kernel_rfl) (by kernel_rfl) (fun _ _ _ h => Died.put (by decide) h) (Or.inl ⟨by rfl, fun w hw => by subst hw; (go_simp; try with_reducible rfl)⟩) hS ?_
          simp only [Act.put, List.setIfInBounds_toArray, List.set_cons_zero, List.set_cons_succ]
          refine wpAnyH_ready (rs := [2]) (by kernel_rfl) (by simp) (AllReadyH.cons (o := { dst := some 21, op := Op.call { callee := Callee.value (Operand.func 82), args := #[Operand.tmp 20], argTypes := #[3] }, type := 3, pos := "wire.go:30", after := #[{ on := 1, ground := Ground.data }], guard := none }) rfl (fun KK hK => ?_) AllReadyH.nil)
          go_simp
          refine cS.mono ?_
          rintro e w1 ⟨rfl, rfl⟩
          refine hK.out _ _ rfl (fun hS' => ?_)
          clear hK KK hS'
          refine wpAnyH_ready (rs := [3]) (by kernel_rfl) (by simp) (AllReadyH.cons (o := { dst := some 22, op := Op.call { callee := Callee.value (Operand.func 91), args := #[Operand.tmp 7, Operand.tmp 21], argTypes := #[144, 3] }, type := 24, pos := "wire.go:30", after := #[{ on := 2, ground := Ground.data }, { on := 2, ground := Ground.chain }], guard := none }) rfl (fun KK hK => ?_) AllReadyH.nil)
          go_simp
          refine cF.mono ?_
          rintro e w1 ⟨rfl, rfl⟩
          exact ⟨rfl, rfl, rfl, rfl, rfl, rfl⟩
    · have hge : (m : Int) ≤ j := by omega
      have hjm : j = m := by omega
      subst hjm
      have eT : ws.take j = ws := List.take_of_length_le (by rw [H.out.2.1.1]; exact Nat.le_refl _)
      rw [eT] at hoff st
      have HT : Hid (TakeSt q w wr A j C (valL xs ws) L n' c' (xs.drop (offL ws)) ∧ offL ws + n' = n) := ⟨st, hoff⟩
      clear st hoff eT hlt hj
      have v1 : wr.cell? ⟨q, 0, none⟩ = some (.slice A j C) := HT.out.1.vals.cell 0
      have v3 : wr.cell? ⟨q + 3, 0, none⟩ = some (.slice L n' c') := HT.out.1.left.cell 0
      have hn' : n' ≤ 100000 := by have := HT.out.2; omega
      go_wp2
      refine wp_region_noPanic ?_
      go_region_law (refine step_append_nin (k := .u8) (size := 1) Try.underlying39 Try.zero_u8 (by decide) rfl (.const (.slice none 0 0)) (.tmp 28) rfl wr.heap.size none 0 0 [] rfl (World.ownsRow_nil _ _ _ _) L n' c' (xs.drop (offL ws)) rfl HT.out.1.drew.binr.n HT.out.1.nil (by omega) (Nat.le_refl _) ?_; intro R D w2 ow2 bl2; have b2 : Below wr.heap.size wr w2 := (Below.refl _ _).drew.trans bl2; have hsz := HT.out.1.size; have k0 := HT.out.1.vals.below b2 (by omega); have k1 := HT.out.1.rest.below b2 (by omega); have k2 := HT.out.1.flag.below b2 (by omega); have c0 : w2.cell? ⟨q, 0, none⟩ = some (.slice A j C) := k0.cell 0; have c1 : w2.cell? ⟨q + 1, 0, none⟩ = some (.slice none 0 0) := k1.cell 0; have c2 : w2.cell? ⟨q + 2, 0, none⟩ = some (.bool false) := k2.cell 0; have f0 := k0.frozen 0; have f1 := k1.frozen 0; have f2 := k2.frozen 0)
      all_goals (
        refine NoPanic.normal ?_
        go_wp2
        refine leaves_cons (f := 90) (args := #[.pointer (some ⟨q, 0, none⟩), .pointer (some ⟨q + 1, 0, none⟩), .pointer (some ⟨q + 2, 0, none⟩)]) (by simp) (by simp [go_sem]) ?_
        refine (catch_idle _ _ _ _).mono ?_
        rintro e u' w'' ⟨rfl, rfl, rfl⟩
        have g0 := ((k0.set 0 (.slice A j C)).set_other (a := ⟨q + 1, 0, none⟩) (by show q ≠ q + 1; omega) (.slice R n' D)).set_other (a := ⟨q + 2, 0, none⟩) (by show q ≠ q + 2; omega) (.bool true)
        have g1 := ((k1.set_other (a := ⟨q, 0, none⟩) (by show q + 1 ≠ q; omega) (.slice A j C)).set 0 (.slice R n' D)).set_other (a := ⟨q + 2, 0, none⟩) (by show q + 1 ≠ q + 2; omega) (.bool true)
        have g2 := ((k2.set_other (a := ⟨q, 0, none⟩) (by show q + 2 ≠ q; omega) (.slice A j C)).set_other (a := ⟨q + 1, 0, none⟩) (by show q + 2 ≠ q + 1; omega) (.slice R n' D)).set 0 (.bool true)
        have hyes : offL ws ≤ xs.length := by have := HT.out.2; rw [H.out.1.1]; omega
        refine ⟨_, take_results q _ _ _ _ _ rfl rfl rfl (g0.cell 0) (g1.cell 0) (g2.cell 0), A, j, C, R, n', D, ?_⟩
        rw [show takeV xs ws = valL xs ws by unfold takeV; rw [if_pos hyes], show takeR xs ws = xs.drop (offL ws) by unfold takeR; rw [if_pos hyes], decide_eq_true hyes]
        have hb : Below q w w2 := HT.out.1.bel.trans (b2.mono (by omega))
        rw [← H.out.2.2]
        refine ⟨rfl, ?_, ?_, ((hb.setCell (Nat.le_refl _) _).setCell (by show q ≤ q + 1; omega) _).setCell (by show q ≤ q + 2; omega) _⟩
        · have h1 := own_belowN HT.out.1.own b2 (Nat.le_refl _)
          exact own_lowerN (ownsRow_setCell_below (ownsRow_setCell_below (ownsRow_setCell_below h1 (by show q < q + 4; omega) _) (by show q + 1 < q + 4; omega) _) (by show q + 2 < q + 4; omega) _) (by omega)
        · have h1 : w2.ownsRow wr.heap.size 5 1 (.slice R n' D) n' (u8s (xs.drop (offL ws))) := by simpa [u8s_kInts] using ow2
          exact own_lowerN (ownsRow_setCell_below (ownsRow_setCell_below (ownsRow_setCell_below h1 (by show q < _; omega) _) (by show q + 1 < _; omega) _) (by show q + 2 < _; omega) _) (by omega))
end Go.Proofs.Yteokhkoaieibmaa

/- Numbers that fit. -/
namespace Go.Proofs.Yteokhkoaieibmaa
open Go.RowKit
set_option linter.unusedVariables false
set_option maxRecDepth 4000

theorem all_wf {k : IntKind} {L : List Int} (h : (L.all fun z => (Lit.int k z).wf) = true) : ∀ z ∈ L, (Lit.int k z).wf = true := List.all_eq_true.1 h
end Go.Proofs.Yteokhkoaieibmaa
