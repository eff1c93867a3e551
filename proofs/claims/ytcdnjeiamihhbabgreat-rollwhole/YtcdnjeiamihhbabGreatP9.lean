/- P9 -/
import Derived.BigQuiet
import Derived.WalkSpells
import Derived.Test.YtcdnjeiamihhbabGreatP8
set_option linter.unusedVariables false
set_option maxRecDepth 4000
namespace Go.Proofs.YtcdnjeiamihhbabGreat
open Go.RowKit
/-- What Take tells: numbers, what stands behind them. -/
def takeV (xs ws : List Int) : List Int := if offL ws ≤ xs.length then valL xs ws else []
def takeR (xs ws : List Int) : List Int := if offL ws ≤ xs.length then xs.drop (offL ws) else []
theorem sizes4 (w : World) (a b c d : Obj) : ((((w.alloc a).alloc b).alloc c).alloc d).heap.size = w.heap.size + 4 := by simp
theorem take_start (q : Nat) (w : World) (hq : q = w.heap.size) (L : Option Addr) (n c : Nat) (ys : List Int) (hb : BIn w L n ys) (hnil : L = none → n = 0 ∧ c = 0) (hc : n ≤ c) :
  TakeSt q w ((((w.alloc (.cells #[.slice none 0 0] 82)).alloc (.cells #[.slice none 0 0] 51)).alloc (.cells #[.bool false] 4)).alloc (.cells #[.slice L n c] 305)) none 0 0 [] L n c ys := by
 subst hq
 refine ⟨?_, ?_, ?_, ?_, World.ownsRow_nil _ _ _ _, hb, hnil, hc, ?_, by rw [sizes4]; exact Nat.le_refl _, rfl⟩
 ·exact (((Blk.new' rfl rfl).alloc _).alloc _).alloc _
 ·exact ((Blk.new' (by simp) rfl).alloc _).alloc _
 ·exact (Blk.new' (by simp) rfl).alloc _
 ·exact Blk.new' (by simp) rfl
 ·exact ((((Below.refl _ _).alloc (Nat.le_refl _) _).alloc (by simp) _).alloc (by simp; omega) _).alloc (by simp; omega) _
theorem own_belowN {t : TypeId} {w w' : World} {base B : Nat} {v : Value} {n : Nat} {zs : List Value} (h : w.ownsRow base t 1 v n zs) (hb : Below B w w') (hs : w.heap.size ≤ B) : w'.ownsRow base t 1 v n zs := by
 refine ⟨h.1, ?_⟩
 rcases h.2 with h2 | ⟨g, cap, cur, hv, hbg, hg, hr⟩
 ·exact .inl h2
 ·exact .inr ⟨g, cap, cur, hv, hbg, by rw [hb.block g (Nat.lt_of_lt_of_le (Array.getElem?_eq_some_iff.1 hg).1 hs)]; exact hg, hr⟩
theorem put_other (a : Act) (v : Value) {d s : Nat} (h : d ≠ s) : (a.put (some d) v).tmps.getD s undef = a.tmps.getD s undef := by
 simp [Act.put, Array.getD_eq_getD_getElem?, h]
/-- Take's body panicked in this world, for want of bytes; its deferred call is laid. -/
def Died (q : Nat) (W : World) (e : Exit) (a : Act) (w : World) : Prop :=
 e = .panic [{ v := .iface 9 (.string tooFew), recovered := false }] ∧ w = W ∧ a.defers = [{ target := .fn (.func 235) #[.pointer (some ⟨q, 0, none⟩), .pointer (some ⟨q + 1, 0, none⟩), .pointer (some ⟨q + 2, 0, none⟩)], args := #[] }] ∧ a.tmps.getD 4 undef = .pointer (some ⟨q, 0, none⟩) ∧ a.tmps.getD 5 undef = .pointer (some ⟨q + 1, 0, none⟩) ∧ a.tmps.getD 6 undef = .pointer (some ⟨q + 2, 0, none⟩)
theorem Died.put {q : Nat} {W : World} {e : Exit} {a : Act} {w : World} {v : Value} {d : Nat} (hd : 6 < d) (h : Died q W e (a.put (some d) v) w) : Died q W e a w := by
 obtain ⟨h1, h2, h3, h4, h5, h6⟩ := h
 rw [put_other _ _ (by omega)] at h4 h5 h6
 exact ⟨h1, h2, h3, h4, h5, h6⟩
theorem take_results (q : Nat) (tmps : Array Value) (w : World) (v0 v1 v2 : Value) (h4 : tmps.getD 4 undef = .pointer (some ⟨q, 0, none⟩)) (h5 : tmps.getD 5 undef = .pointer (some ⟨q + 1, 0, none⟩)) (h6 : tmps.getD 6 undef = .pointer (some ⟨q + 2, 0, none⟩))
  (c0 : w.cell? ⟨q, 0, none⟩ = some v0) (c1 : w.cell? ⟨q + 1, 0, none⟩ = some v1) (c2 : w.cell? ⟨q + 2, 0, none⟩ = some v2) :
  (results Tryz.f219 tmps).run Tryz.prog w = .ok (.tuple #[v0, v1, v2]) w := by
 have k4 : tmps[4]?.getD undef = .pointer (some ⟨q, 0, none⟩) := by simpa using h4
 have k5 : tmps[5]?.getD undef = .pointer (some ⟨q + 1, 0, none⟩) := by simpa using h5
 have k6 : tmps[6]?.getD undef = .pointer (some ⟨q + 2, 0, none⟩) := by simpa using h6
 simp [results, Tryz.results219, go_sem, k4, k5, k6, c0, c1, c2]
set_option maxHeartbeats 2000000 in
theorem take_of (a : Option Addr) (n c : Nat) (xs : List Int) (b : Option Addr) (m d : Nat) (ws : List Int) (w : World) (hx : BIn w a n xs) (hnil : a = none → n = 0 ∧ c = 0) (hnc : n ≤ c) (hy : NIn .i64 w b m ws) (hn : n ≤ 100000) (hm : m ≤ 100000) :
  Calls Tryz.prog 219 #[.slice a n c, .slice b m d] w fun e w' => ∃ A k C R r D, e = .returned (.tuple #[.slice A k C, .slice R r D, .bool (decide (offL ws ≤ xs.length))]) ∧ w'.ownsRow w.heap.size 36 1 (.slice A k C) k (kInts .u64 (takeV xs ws)) ∧ w'.ownsRow w.heap.size 5 1 (.slice R r D) r (u8s (takeR xs ws)) ∧ Below w.heap.size w w' := by
 have hmf : ∀ (fn : Fn) (first cap : Array Value) (w : World), (Instr.makeFunc fn first cap).run Tryz.prog w = .ok (.func fn first cap) w := fun _ _ _ _ => rfl
 obtain ⟨q, hq⟩ : ∃ q, q = w.heap.size := ⟨_, rfl⟩
 have hst := take_start q w hq a n c xs hx hnil hnc
 have H : Hid (BIn w a n xs ∧ NIn .i64 w b m ws ∧ q = w.heap.size) := ⟨hx, hy, hq⟩
 have H0 : Hid (TakeSt q w ((((w.alloc (.cells #[.slice none 0 0] 82)).alloc (.cells #[.slice none 0 0] 51)).alloc (.cells #[.bool false] 4)).alloc (.cells #[.slice a n c] 305)) none 0 0 [] a n c xs) := hst
 clear hx hy hst hnil hnc
 go_enter_defers Tryz.func219, Tryz.ntmps219
 go_wp2
 rw [← hq]
 clear hq
 generalize hW : World.alloc (World.alloc (World.alloc (World.alloc w _) _) _) _ = W
 rw [hW] at H0
 clear hW
 have e2 : q + 1 + 1 = q + 2 := rfl
 have e3 : q + 1 + 1 + 1 = q + 3 := rfl
 rw [e3, e2]
 clear e2 e3
 go_loopw [15] (fun i wr => ∃ (j : Nat) (A : Option Addr) (C : Nat) (L : Option Addr) (n' c' : Nat), j ≤ m ∧ i = .int .i64 j ∧ offL (ws.take j) + n' = n ∧ TakeSt q w wr A j C (valL xs (ws.take j)) L n' c' (xs.drop (offL (ws.take j))))
  (fun i _ => m - (intOf i).toNat)
 case atStart => exact ⟨0, none, 0, a, n, c, by omega, rfl, by simp [offL], by simpa [offL, valL] using H0.out⟩
 case round =>
  obtain ⟨j, A, C, L, n', c', hj, rfl, hoff, st⟩ := hrel
  by_cases hlt : j < m
  ·have hlt' : (j : Int) < m := by omega
   obtain ⟨b1, o1, rfl, hc1⟩ := H.out.2.1.2.2.2.resolve_left (by omega)
   have cw : wr.cell? ⟨b1, o1 + j, none⟩ = some (.int .i64 (ws.getD j 0)) := by rw [st.bel.cell (by rw [H.out.2.2]; exact old_block (hc1 j (by omega)))]; exact hc1 j (by omega)
   have hnx := take_next ws (i := j) (by rw [H.out.2.1.1]; omega)
   clear hc1
   obtain ⟨X, eX⟩ : ∃ X, X = ws.getD j 0 := ⟨_, rfl⟩
   rw [← eX] at cw hnx
   have HX : Hid (ws.take (j + 1) = ws.take j ++ [X] ∧ offL (ws.take j) + n' = n) := ⟨hnx, hoff⟩
   clear eX hnx hoff
   obtain ⟨K, hK⟩ : ∃ K, K = wd X := ⟨_, rfl⟩
   have cS := size_of X wr.drew
   have hw8 := wd_le X
   have hw1 := wd_pos X
   rw [← hK] at cS hw8 hw1
   have HK : Hid (K = wd X) := hK
   clear hK
   have HT : Hid (TakeSt q w wr A j C (valL xs (ws.take j)) L n' c' (xs.drop (offL (ws.take j)))) := st
   clear st
   go_wp2
   by_cases hen : K ≤ n'
   ·have cN := number_of (q + 3) L n' c' K _ wr.drew (HT.out.drew.left.cell 0) (HT.out.drew.left.frozen 0) HT.out.drew.binr hw1 hen hw8 HT.out.cap
    obtain ⟨L', eL, st'⟩ := HT.out.drew.took K hw1 hen
    rw [eL] at cN
    have HN : Hid (TakeSt q w (wr.drew.setCell ⟨q + 3, 0, none⟩ (.slice L' (n' - K) (c' - K))) A j C (valL xs (ws.take j)) L' (n' - K) (c' - K) ((xs.drop (offL (ws.take j))).drop K)) := st'
    have v1 : wr.cell? ⟨q, 0, none⟩ = some (.slice A j C) := HT.out.vals.cell 0
    clear st' eL
    have hNf : FitsU (numI (((xs.drop (offL (ws.take j)))).take K)) := numI_u64 (by rw [List.length_take]; omega) (fun z hz => H.out.1.2.2.1 z (List.mem_of_mem_drop (List.mem_of_mem_take hz)))
    obtain ⟨N, eN⟩ : ∃ N, N = numI (((xs.drop (offL (ws.take j)))).take K) := ⟨_, rfl⟩
    rw [← eN] at cN hNf
    generalize hY : World.setCell (World.drew wr) _ _ = Y at cN HN
    have v0 : Y.cell? ⟨q, 0, none⟩ = some (.slice A j C) := HN.out.vals.cell 0
    have v2 : ∀ o, (Y.alloc o).cell? ⟨q, 0, none⟩ = some (.slice A j C) := fun o => (HN.out.vals.alloc o).cell 0
    have HV : Hid (N = numI (((xs.drop (offL (ws.take j)))).take K) ∧ FitsU N ∧ K ≤ n') := ⟨eN, hNf, hen⟩
    clear eN hNf hen hY
    refine wp_region_noPanic ?_
    go_region_law (first
     | (go_simp; go_at_call 218; refine cS.mono ?_; rintro e w1 ⟨rfl, rfl⟩)
     | (go_simp; go_at_call 236; refine cN.mono ?_; rintro e Y ⟨rfl, rfl⟩)
     | (refine step_append_nin (k := .u64) (size := 8) Tryz.underlying82 Tryz.zero_u64 (by decide) rfl (.tmp 19) (.tmp 23) rfl (q + 4) A j C (valL xs (ws.take j)) rfl (HN.out.own.alloc _) (some ⟨Y.heap.size, 0, none⟩) 1 1 [N] rfl (new_nin rfl rfl rfl (by intro z hz; simp only [List.mem_cons, List.not_mem_nil, or_false] at hz; subst hz; exact wfU HV.out.2.1) (by unfold maxLen; omega)) (fun h => by cases h) (by omega) (by have := HN.out.size; simp; omega) ?_; intro A2 C2 w2 ow2 bl2; have b2 : Below (q + 4) Y w2 := ((Below.refl _ _).alloc HN.out.size _).trans bl2; have k2 : w2.cell? ⟨q, 0, none⟩ = some (.slice A j C) := (HN.out.vals.below b2 (by omega)).cell 0; have f2 : w2.frozen? ⟨q, 0, none⟩ = false := (HN.out.vals.below b2 (by omega)).frozen 0))
    all_goals (
     have HZ : Hid (TakeSt q w (w2.setCell ⟨q, 0, none⟩ (.slice A2 (j + 1) C2)) A2 (j + 1) C2 (valL xs (ws.take (j + 1))) L' (n' - K) (c' - K) (xs.drop (offL (ws.take (j + 1))))) := by
      have e1 : valL xs (ws.take (j + 1)) = valL xs (ws.take j) ++ [N] := by rw [HX.out.1, valL_snoc, HV.out.1, HK.out]
      have e2 : xs.drop (offL (ws.take (j + 1))) = (xs.drop (offL (ws.take j))).drop K := by rw [HX.out.1, offL_snoc, List.drop_drop, HK.out]
      rw [← e1] at ow2
      rw [e2]
      exact HN.out.more ow2 b2
     clear ow2 bl2 b2 k2 f2
     refine NoPanic.normal ?_
     go_wp2
     go_roundw
     case rel => exact ⟨j + 1, A2, C2, L', n' - K, c' - K, by omega, by go_num, by rw [HX.out.1, offL_snoc, ← HK.out]; have := HX.out.2; have := HV.out.2.2; omega, HZ.out⟩
     case measure => simp [intOf]; omega)
   ·have cF := number_few (q + 3) L n' c' K wr.drew (HT.out.drew.left.cell 0) (by omega)
    have v1 : wr.cell? ⟨q, 0, none⟩ = some (.slice A j C) := HT.out.vals.cell 0
    have HV : Hid (n' < K) := by show n' < K; omega
    clear hen
    refine Code.wp_mono (Q := Died q wr.drew) ?_ ?_
    ·rintro e ⟨tmps, defers⟩ w' ⟨rfl, rfl, h3, h4, h5, h6⟩
     dsimp only at h3 h4 h5 h6
     subst h3
     show Leaves Tryz.prog Tryz.f219 tmps _ _ _ _
     refine leaves_cons (f := 235) (args := #[.pointer (some ⟨q, 0, none⟩), .pointer (some ⟨q + 1, 0, none⟩), .pointer (some ⟨q + 2, 0, none⟩)]) (by simp) (by simp [go_sem]) ?_
     have st := HT.out.drew
     refine (catch_panicking q 9 _ [] _ _ _ _ (st.vals.cell 0) (st.rest.cell 0) (st.flag.cell 0) (st.vals.frozen 0) (st.rest.frozen 0) (st.flag.frozen 0)).mono ?_
     rintro e u' w'' ⟨rfl, rfl, rfl⟩
     have k0 := ((st.vals.set 0 (.slice none 0 0)).set_other (a := ⟨q + 1, 0, none⟩) (by show q ≠ q + 1; omega) (.slice none 0 0)).set_other (a := ⟨q + 2, 0, none⟩) (by show q ≠ q + 2; omega) (.bool false)
     have k1 := ((st.rest.set_other (a := ⟨q, 0, none⟩) (by show q + 1 ≠ q; omega) (.slice none 0 0)).set 0 (.slice none 0 0)).set_other (a := ⟨q + 2, 0, none⟩) (by show q + 1 ≠ q + 2; omega) (.bool false)
     have k2 := ((st.flag.set_other (a := ⟨q, 0, none⟩) (by show q + 2 ≠ q; omega) (.slice none 0 0)).set_other (a := ⟨q + 1, 0, none⟩) (by show q + 2 ≠ q + 1; omega) (.slice none 0 0)).set 0 (.bool false)
     refine ⟨_, take_results q tmps _ _ _ _ h4 h5 h6 (k0.cell 0) (k1.cell 0) (k2.cell 0), none, 0, 0, none, 0, 0, ?_⟩
     ·have hno : ¬ offL ws ≤ xs.length := by
       have h1 := offL_take ws (j + 1)
       rw [HX.out.1, offL_snoc, ← HK.out] at h1
       have h2 := HX.out.2
       have h3 := HV.out
       rw [H.out.1.1]
       omega
      rw [show takeV xs ws = [] by unfold takeV; rw [if_neg hno], show takeR xs ws = [] by unfold takeR; rw [if_neg hno], decide_eq_false hno]
      refine ⟨rfl, World.ownsRow_nil _ _ _ _, World.ownsRow_nil _ _ _ _, ?_⟩
      rw [← H.out.2.2]
      exact ((st.bel.setCell (Nat.le_refl _) _).setCell (by show q ≤ q + 1; omega) _).setCell (by show q ≤ q + 2; omega) _
    ·refine wp_region_held_drew (S := fun w' => w' = wr.drew) (by kernel_rfl) rfl (fun hS => ?_)
     refine wpAnyH_take (i := 0) (oi := { dst := some 19, op := Op.load 82 (Operand.tmp 4), type := 82, pos := "wire.go:30", after := #[], guard := none }) (v := .slice A j C) rfl (by kernel_rfl) (by kernel_rfl) (by kernel_rfl) (fun _ _ _ h => Died.put (by decide) h) (Or.inl ⟨by rfl, fun w hw => by subst hw; go_simp⟩) hS ?_
     simp only [Act.put, List.setIfInBounds_toArray, List.set_cons_zero, List.set_cons_succ]
     refine wpAnyH_take (i := 1) (oi := { dst := some 20, op := Op.move (Operand.tmp 9), type := 3, pos := "wire.go:30", after := #[], guard := none }) (v := .int .i64 X) rfl (by kernel_rfl) (by kernel_rfl) (by kernel_rfl) (fun _ _ _ h => Died.put (by decide) h) (Or.inl ⟨by rfl, fun w hw => by subst hw; (go_simp; try with_reducible rfl)⟩) hS ?_
     simp only [Act.put, List.setIfInBounds_toArray, List.set_cons_zero, List.set_cons_succ]
     refine wpAnyH_ready (rs := [2]) (by kernel_rfl) (by simp) (AllReadyH.cons (o := { dst := some 21, op := Op.call { callee := Callee.value (Operand.func 218), args := #[Operand.tmp 20], argTypes := #[3] }, type := 3, pos := "wire.go:30", after := #[{ on := 1, ground := Ground.data }], guard := none }) rfl (fun KK hK => ?_) AllReadyH.nil)
     go_simp
     refine cS.mono ?_
     rintro e w1 ⟨rfl, rfl⟩
     refine hK.out _ _ rfl (fun hS' => ?_)
     clear hK KK hS'
     refine wpAnyH_ready (rs := [3]) (by kernel_rfl) (by simp) (AllReadyH.cons (o := { dst := some 22, op := Op.call { callee := Callee.value (Operand.func 236), args := #[Operand.tmp 7, Operand.tmp 21], argTypes := #[305, 3] }, type := 36, pos := "wire.go:30", after := #[{ on := 2, ground := Ground.data }, { on := 2, ground := Ground.chain }], guard := none }) rfl (fun KK hK => ?_) AllReadyH.nil)
     go_simp
     refine cF.mono ?_
     rintro e w1 ⟨rfl, rfl⟩
     exact ⟨rfl, rfl, rfl, rfl, rfl, rfl⟩
  ·have hge : (m : Int) ≤ j := by omega
   have hjm : j = m := by omega
   subst hjm
   have eT : ws.take j = ws := List.take_of_length_le (by rw [H.out.2.1.1]; exact Nat.le_refl _)
   rw [eT] at hoff st
   have HT : Hid (TakeSt q w wr A j C (valL xs ws) L n' c' (xs.drop (offL ws)) ∧ offL ws + n' = n) := ⟨st, hoff⟩
   clear st hoff eT hlt hj
   have v1 : wr.cell? ⟨q, 0, none⟩ = some (.slice A j C) := HT.out.1.vals.cell 0
   have v3 : wr.cell? ⟨q + 3, 0, none⟩ = some (.slice L n' c') := HT.out.1.left.cell 0
   have hn' : n' ≤ 100000 := by have := HT.out.2; omega
   go_wp2
   refine wp_region_noPanic ?_
   go_region_law (refine step_append_nin (k := .u8) (size := 1) Tryz.underlying51 Tryz.zero_u8 (by decide) rfl (.const (.slice none 0 0)) (.tmp 28) rfl wr.heap.size none 0 0 [] rfl (World.ownsRow_nil _ _ _ _) L n' c' (xs.drop (offL ws)) rfl HT.out.1.drew.binr.n HT.out.1.nil (by omega) (Nat.le_refl _) ?_; intro R D w2 ow2 bl2; have b2 : Below wr.heap.size wr w2 := (Below.refl _ _).drew.trans bl2; have hsz := HT.out.1.size; have k0 := HT.out.1.vals.below b2 (by omega); have k1 := HT.out.1.rest.below b2 (by omega); have k2 := HT.out.1.flag.below b2 (by omega); have c0 : w2.cell? ⟨q, 0, none⟩ = some (.slice A j C) := k0.cell 0; have c1 : w2.cell? ⟨q + 1, 0, none⟩ = some (.slice none 0 0) := k1.cell 0; have c2 : w2.cell? ⟨q + 2, 0, none⟩ = some (.bool false) := k2.cell 0; have f0 := k0.frozen 0; have f1 := k1.frozen 0; have f2 := k2.frozen 0)
   all_goals (
    refine NoPanic.normal ?_
    go_wp2
    refine leaves_cons (f := 235) (args := #[.pointer (some ⟨q, 0, none⟩), .pointer (some ⟨q + 1, 0, none⟩), .pointer (some ⟨q + 2, 0, none⟩)]) (by simp) (by simp [go_sem]) ?_
    refine (catch_idle _ _ _ _).mono ?_
    rintro e u' w'' ⟨rfl, rfl, rfl⟩
    have g0 := ((k0.set 0 (.slice A j C)).set_other (a := ⟨q + 1, 0, none⟩) (by show q ≠ q + 1; omega) (.slice R n' D)).set_other (a := ⟨q + 2, 0, none⟩) (by show q ≠ q + 2; omega) (.bool true)
    have g1 := ((k1.set_other (a := ⟨q, 0, none⟩) (by show q + 1 ≠ q; omega) (.slice A j C)).set 0 (.slice R n' D)).set_other (a := ⟨q + 2, 0, none⟩) (by show q + 1 ≠ q + 2; omega) (.bool true)
    have g2 := ((k2.set_other (a := ⟨q, 0, none⟩) (by show q + 2 ≠ q; omega) (.slice A j C)).set_other (a := ⟨q + 1, 0, none⟩) (by show q + 2 ≠ q + 1; omega) (.slice R n' D)).set 0 (.bool true)
    have hyes : offL ws ≤ xs.length := by have := HT.out.2; rw [H.out.1.1]; omega
    refine ⟨_, take_results q _ _ _ _ _ rfl rfl rfl (g0.cell 0) (g1.cell 0) (g2.cell 0), A, j, C, R, n', D, ?_⟩
    rw [show takeV xs ws = valL xs ws by unfold takeV; rw [if_pos hyes], show takeR xs ws = xs.drop (offL ws) by unfold takeR; rw [if_pos hyes], decide_eq_true hyes]
    have hb : Below q w w2 := HT.out.1.bel.trans (b2.mono (by omega))
    rw [← H.out.2.2]
    refine ⟨rfl, ?_, ?_, ((hb.setCell (Nat.le_refl _) _).setCell (by show q ≤ q + 1; omega) _).setCell (by show q ≤ q + 2; omega) _⟩
    ·have h1 := own_belowN HT.out.1.own b2 (Nat.le_refl _)
     exact own_lowerN (ownsRow_setCell_below (ownsRow_setCell_below (ownsRow_setCell_below h1 (by show q < q + 4; omega) _) (by show q + 1 < q + 4; omega) _) (by show q + 2 < q + 4; omega) _) (by omega)
    ·have h1 : w2.ownsRow wr.heap.size 5 1 (.slice R n' D) n' (u8s (xs.drop (offL ws))) := by simpa [u8s_kInts] using ow2
     exact own_lowerN (ownsRow_setCell_below (ownsRow_setCell_below (ownsRow_setCell_below h1 (by show q < _; omega) _) (by show q + 1 < _; omega) _) (by show q + 2 < _; omega) _) (by omega))
/-- One more number of both lists. -/
theorem pack_next (ws vs : List Int) {i : Nat} (h1 : i < ws.length) (h2 : i < vs.length) :
  packL (ws.take (i + 1)) (vs.take (i + 1)) = packL (ws.take i) (vs.take i) ++ bigI (wd (ws.getD i 0)) (vs.getD i 0) := by
 rw [take_next ws h1, take_next vs h2, packL_snoc _ _ _ _ (by rw [List.length_take, List.length_take]; omega)]
theorem pack_len (ws vs : List Int) : (packL ws vs).length ≤ 8 * ws.length := by
 have h := packL_take ws vs (min ws.length vs.length) rfl
 rw [← h, packL_length _ _ (by rw [List.length_take, List.length_take]; omega)]
 have := offL_le (ws.take (min ws.length vs.length))
 rw [List.length_take] at this
 omega
set_option maxHeartbeats 1000000 in
theorem pack_of (a : Option Addr) (n c : Nat) (ws : List Int) (b : Option Addr) (m d : Nat) (vs : List Int) (w : World) (hx : NIn .i64 w a n ws) (hy : NIn .u64 w b m vs) (hn : n ≤ 100000) (hm : m ≤ 100000) :
  Calls Tryz.prog 159 #[.slice a n c, .slice b m d] w fun e w' => ∃ a' k' c', e = .returned (.slice a' k' c') ∧ k' = (packL ws vs).length ∧ w'.ownsRow w.heap.size 5 1 (.slice a' k' c') k' (u8s (packL ws vs)) ∧ Below w.heap.size w w' := by
 obtain ⟨i0, hi0, hz0, hz1, hz2⟩ := info_parts Tryz.zero_u8
 obtain ⟨q, hq⟩ : ∃ q, q = w.heap.size := ⟨_, rfl⟩
 obtain ⟨M, hM⟩ : ∃ M : Nat, M = min n m := ⟨_, rfl⟩
 have hM' : (if m < n then (m : Int) else n) = M := by rw [hM]; split <;> omega
 have hMb : M ≤ 100000 := by omega
 have H : Hid (NIn .i64 w a n ws ∧ NIn .u64 w b m vs ∧ q = w.heap.size ∧ Tryz.prog.info? 5 = some i0 ∧ i0.zero = some (.int .u8 0) ∧ i0.size = 1 ∧ i0.bytes = 1 ∧ M = min n m) := ⟨hx, hy, hq, hi0, hz0, hz1, hz2, hM⟩
 have hMn : M ≤ n := by omega
 have hMm : M ≤ m := by omega
 rw [← hq]
 clear hx hy hi0 hz0 hz1 hz2 hM
 go_enter Tryz.func159, Tryz.ntmps159
 go_upto_region 3 with (at_make; refine wpList_make_own w rfl _ (.tmp 14) 51 rfl q 5 i0 (.int .u8 0) 1 Tryz.underlying51 H.out.2.2.2.1 H.out.2.2.2.2.1 H.out.2.2.2.2.2.1 .i64 .i64 _ (8 * M) rfl rfl (by omega) (by rw [H.out.2.2.2.2.2.2.1]; omega) (by unfold maxLen; omega) (by rw [H.out.2.2.1]; exact Nat.le_refl _) ?_; intro w1 ow1 gr1)
 have bl1 : Below q w w1 := (Below.refl _ _).grown gr1 (by rw [H.out.2.2.1]; exact Nat.le_refl _) (fun g hg => by cases hg)
 have H1 : Hid (w1.ownsRow q 5 1 (.slice (some ⟨w.heap.size, 0, none⟩) 0 (8 * M)) 0 (u8s []) ∧ Below q w w1) := ⟨ow1, bl1⟩
 rw [← hq] at H1 ⊢
 clear hq ow1 gr1 bl1 hM'
 go_wp2
 go_loopw [6, 17] (fun s i wr => ∃ (j : Nat) (a' : Option Addr) (k' c' : Nat), j ≤ M ∧ i = .int .i64 j ∧ s = .slice a' k' c' ∧ k' = (packL (ws.take j) (vs.take j)).length ∧ wr.ownsRow q 5 1 (.slice a' k' c') k' (u8s (packL (ws.take j) (vs.take j))) ∧ Below q w wr)
  (fun _ i _ => M - (intOf i).toNat)
 case atStart => exact ⟨0, _, _, _, by omega, rfl, rfl, rfl, by simpa [packL] using H1.out.1, H1.out.2⟩
 case round =>
  obtain ⟨j, a', k', c', hj, rfl, rfl, hk', ow, bl⟩ := hrel
  have HK : Hid (k' = (packL (ws.take j) (vs.take j)).length ∧ wr.ownsRow q 5 1 (.slice a' k' c') k' (u8s (packL (ws.take j) (vs.take j))) ∧ Below q w wr) := ⟨hk', ow, bl⟩
  have hkb : k' ≤ 800000 := by
   have := pack_len (ws.take j) (vs.take j)
   rw [List.length_take] at this
   omega
  clear ow bl hk'
  by_cases hlt : j < M
  ·have hlt' : (j : Int) < M := by omega
   have hjn : (j : Int) < n := by omega
   have hjm : (j : Int) < m := by omega
   have hqs : Hid (Below w.heap.size w wr ∧ q ≤ wr.heap.size) := ⟨by rw [← H.out.2.2.1]; exact HK.out.2.2, by have := HK.out.2.2.size; rw [H.out.2.2.1] at *; exact this⟩
   obtain ⟨b1, o1, rfl, hc1⟩ := H.out.1.2.2.2.resolve_left (by omega)
   obtain ⟨b2, o2, rfl, hc2⟩ := H.out.2.1.2.2.2.resolve_left (by omega)
   have cw : wr.cell? ⟨b1, o1 + j, none⟩ = some (.int .i64 (ws.getD j 0)) := by rw [hqs.out.1.cell (old_block (hc1 j (by omega)))]; exact hc1 j (by omega)
   have cv : wr.cell? ⟨b2, o2 + j, none⟩ = some (.int .u64 (vs.getD j 0)) := by rw [hqs.out.1.cell (old_block (hc2 j (by omega)))]; exact hc2 j (by omega)
   clear hc1 hc2
   have hv := fitsU (num_fits H.out.2.1.2.2.1 j (by rw [H.out.2.1.1]; omega))
   have hx := bounds_i64 (num_fits H.out.1.2.2.1 j (by rw [H.out.1.1]; omega))
   obtain ⟨X, eX⟩ : ∃ X, X = ws.getD j 0 := ⟨_, rfl⟩
   obtain ⟨V, eV⟩ : ∃ V, V = vs.getD j 0 := ⟨_, rfl⟩
   rw [← eX] at cw hx
   rw [← eV] at cv hv
   have HE : Hid (X = ws.getD j 0 ∧ V = vs.getD j 0) := ⟨eX, eV⟩
   clear eX eV
   unfold FitsU at hv
   obtain ⟨v0, v1⟩ := hv
   obtain ⟨x0, x1⟩ := hx
   have hwd := wd_le X
   obtain ⟨K, hK⟩ : ∃ K, K = wd X := ⟨_, rfl⟩
   have cS := size_of X wr.drew
   rw [← hK] at cS hwd
   have HW : Hid (K = wd X) := hK
   clear hK
   have cA := appendNumber_of a' k' c' (packL (ws.take j) (vs.take j)) V K q wr.drew HK.out.2.1.drew hqs.out.2 v0 v1 hwd (by omega)
   go_wp2
   refine region_tail 10 (by kernel_rfl) (by kernel_rfl) ?_
   simp only [List.take_succ_cons, List.take_zero, List.drop_succ_cons, List.drop_zero]
   iterate 9 still_step
   still_call cS
   refine wpStill_nil ?_
   go_wp2_with (go_at_call 217; refine cA.mono ?_; rintro e w2 ⟨a2, c2, rfl, ow2, bl2⟩)
   go_roundw
   case rel =>
    have e := pack_next ws vs (i := j) (by rw [H.out.1.1]; omega) (by rw [H.out.2.1.1]; omega)
    rw [← HE.out.1, ← HE.out.2, ← HW.out] at e
    refine ⟨j + 1, a2, k' + K, c2, by omega, by go_num, by rfl, ?_, by rw [e]; exact ow2, HK.out.2.2.drew.trans bl2⟩
    rw [e, List.length_append, bigI_length, HK.out.1]
   case measure => simp [intOf]; omega
  ·have hge : (M : Int) ≤ j := by omega
   have hjM : j = M := by omega
   have HE : Hid (packL (ws.take j) (vs.take j) = packL ws vs) := by
    show packL (ws.take j) (vs.take j) = packL ws vs
    exact packL_take ws vs j (by rw [hjM, H.out.2.2.2.2.2.2.2, H.out.1.1, H.out.2.1.1])
   clear hjM
   go_wp2
   go_ret
   refine ⟨a', k', c', rfl, ?_, ?_, HK.out.2.2⟩
   ·rw [HK.out.1, HE.out]
   ·rw [← HE.out]; exact HK.out.2.1




theorem crH_odd {c : Int} (h : (bits .and .u32 c 1 == 1) = true) : crH c = bits .xor .u32 (c / 2) 3988292384 := if_pos h
theorem crH_even {c : Int} (h : (bits .and .u32 c 1 == 1) = false) : crH c = c / 2 := if_neg (by rw [h]; decide)
theorem val_u32 {a b : Int} (h : a = b) : Value.int .u32 a = .int .u32 b := by rw [h]
theorem ret_u32 {a b : Int} (h : a = b) : Ending.returned (.int .u32 a) = .returned (.int .u32 b) := by rw [h]
set_option maxHeartbeats 400000 in
theorem crcHalve_of (c : Int) (w : World) (h0 : 0 ≤ c) (h1 : c < 4294967296) :
  Calls Tryz.prog 113 #[.int .u32 c] w fun e w' => e = .returned (.int .u32 (crH c)) ∧ w' = w := by
 go_enter Tryz.func113, Tryz.ntmps113
 go_wp2
 ·go_ret
  exact ⟨ret_u32 (crH_odd ‹_›).symm, rfl⟩
 ·go_ret
  exact ⟨ret_u32 (crH_even ‹_›).symm, rfl⟩
set_option maxHeartbeats 400000 in
theorem crcNext_of (s b : Int) (w : World) (hs : Fits32 s) (hb : Fits8 b) :
  Calls Tryz.prog 74 #[.int .u32 s, .int .u8 b] w fun e w' => e = .returned (.int .u32 (crN s b)) ∧ w' = w := by
 have H : Hid (Fits32 (crS s b)) := crS_fits hs hb
 obtain ⟨h0, h1⟩ := hs
 obtain ⟨h2, h3⟩ := hb
 go_enter Tryz.func74, Tryz.ntmps74
 go_wp2
 go_loop [5, 11] (fun c i => ∃ k : Nat, k ≤ 8 ∧ i = .int .i64 k ∧ c = .int .u32 (crIter k (crS s b))) (fun _ i => 8 - (intOf i).toNat)
 case atStart => exact ⟨0, by omega, rfl, rfl⟩
 case round =>
  obtain ⟨k, hk, rfl, rfl⟩ := hrel
  have hf := crIter_fits k H.out
  obtain ⟨hf0, hf1⟩ := hf
  by_cases hlt : k < 8
  ·go_wp2_with (go_at_call 113; refine (crcHalve_of _ _ hf0 hf1).mono ?_; rintro e w' ⟨rfl, rfl⟩)
   go_round
   case rel => exact ⟨k + 1, by omega, by go_num, rfl⟩
   case measure => simp [intOf]; omega
  ·have : k = 8 := by omega
   subst this
   go_wp2
   go_ret
   exact ⟨rfl, rfl⟩
end Go.Proofs.YtcdnjeiamihhbabGreat
