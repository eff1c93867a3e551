/- What one call of rec's Check does, and of the document's Same. -/
import Derived.Test.YtggeadjebkhomaaRcOpen
import Derived.Lib.QuietBelow
namespace Go.Proofs.Ytggeadjebkhomaa
open Go.RowKit Go.Sort
set_option linter.unusedVariables false
set_option maxRecDepth 4000

theorem shl_pow : ∀ p : Fin 7, wrap64 (64 * 2 ^ p.val) = ((64 * 2 ^ p.val : Nat) : Int) := by decide +kernel
theorem shl_mem : ∀ p : Fin 7, (((64 * 2 ^ p.val : Nat) : Int) ∈ PowR) := by decide +kernel
theorem cwpList_append_run {P : Program} {w : World} {ops : Array Oper} {rest : List Oper} {o : Oper} {a : Act} {Q : Exit → Act → World → Prop} (hg : o.guard = none) (s x : Operand) (t t2 : TypeId)
    (hop : o.op = Op.call { callee := Callee.builtin Builtin.append, args := #[s, x], argTypes := #[t, t2] }) (u y : Value) (hs : a.eval s = u) (hx : a.eval x = y) (v' : Value) (w' : World)
    (hrun : (Builtin.append_ #[t, t2] o.type #[u, y]).run P w = .ok v' w') (hK : wpList P ops Q rest (a.put o.dst v') w') : wpList P ops Q (o :: rest) a w := by
  refine wpList_plain hg fun _ hK' => ?_
  unfold Oper.wp
  simp [execOp, hop, resolve, invoke, builtin, hs, hx, hrun, Result.andThen]
  exact hK' _ _ hK
theorem ends_regrown {w : World} (a : Option Addr) (n c : Nat) (zs : List Int) (h : BIn w a n zs) (d : Nat) (os : Array Obj) : Calls Try.prog 21 #[.slice a n c] (grow (redrawn w d) os) fun e w'' => e = .returned (.int .i64 (endsN zs : Nat)) ∧ ∃ p : Regrown, w'' = grow (redrawn w p.d) p.os :=
  Calls.regrown_of ((ends_of a n c zs _ (h.below (below_regrown w d os))).mono fun e w' h => ⟨h.1, by rw [h.2]; exact Below.refl _ _⟩)
set_option maxHeartbeats 2000000 in
theorem check_of (x : It) (a : Option Addr) (n c : Nat) (zs : List Int) (w : World) (hf : x.Fits) (h : BIn w a n zs) :
    Calls Try.prog 19 #[.agg #[.int .u32 x.t, .int .u64 x.b, .int .u8 x.k, .int .u32 x.s, .int .u16 x.e], .slice a n c] w fun e w' => e = .returned (.bool (checkB x zs)) ∧ Below w.heap.size w w' := by
  obtain ⟨q, hq⟩ : ∃ q, q = w.heap.size := ⟨_, rfl⟩
  have kb : Blk (w.alloc (.cells #[.int .u32 x.t, .int .u64 x.b, .int .u8 x.k, .int .u32 x.s, .int .u16 x.e] 47)) q (itL x) 47 := Blk.new' hq.symm rfl
  have bw : Below w.heap.size w (w.alloc (.cells #[.int .u32 x.t, .int .u64 x.b, .int .u8 x.k, .int .u32 x.s, .int .u16 x.e] 47)) := (Below.refl _ _).alloc (Nat.le_refl _) _
  obtain ⟨B, hB⟩ : ∃ B, B = checkB x zs := ⟨_, rfl⟩
  have HB : Hid (B = checkB x zs) := hB
  rw [← hB]
  clear hB
  have ue : IntKind.i64.wrap x.e = x.e := by have := hf.2.2.2.2; unfold Fits16 at this; rw [IntKind.wrap_i64]; omega
  clear hf
  go_enter Try.func19, Try.ntmps19
  go_upto_region 1 with fail
  rw [← hq]
  generalize hW : World.alloc w _ = W at kb bw ⊢
  have H : Hid (Blk W q (itL x) 47 ∧ Below w.heap.size w W ∧ BIn W a n zs) := ⟨kb, bw, h.below bw⟩
  have c2 : W.cell? ⟨q, 2, none⟩ = some (.int .u8 x.k) := kb.cell 2
  have c3 : W.cell? ⟨q, 3, none⟩ = some (.int .u32 x.s) := kb.cell 3
  have c4 : W.cell? ⟨q, 4, none⟩ = some (.int .u16 x.e) := kb.cell 4
  obtain ⟨E, hE⟩ : ∃ E, E = endsN zs := ⟨_, rfl⟩
  obtain ⟨K, hK⟩ : ∃ K, K = crI 0 zs := ⟨_, rfl⟩
  by_cases hk : x.k = 1
  · have hkb : (x.k == 1) = true := by simp [hk]
    by_cases he : x.e = (E : Int)
    · have heb : (x.e == (E : Int)) = true := by simp [he]
      have hf : B = (x.s == K) := by
        rw [HB.out]
        unfold checkB
        rw [← hE, ← hK]
        by_cases hs : x.s = K <;> simp [hk, he, hs]
      have HBB : Hid (B = (x.s == K)) := hf
      have cE := fun V hV => ends_of a n c zs V hV
      have cK := fun g V hg hV => crcSum_of g a n c 1 zs V hg hV
      simp only [← hE] at cE
      simp only [← hK] at cK
      have g2 : ∀ o, (W.alloc o).cell? ⟨q, 2, none⟩ = some (.int .u8 x.k) := fun o => (kb.alloc o).cell 2
      have g3 : ∀ o, (W.alloc o).cell? ⟨q, 3, none⟩ = some (.int .u32 x.s) := fun o => (kb.alloc o).cell 3
      have g4 : ∀ o, (W.alloc o).cell? ⟨q, 4, none⟩ = some (.int .u16 x.e) := fun o => (kb.alloc o).cell 4
      rw [hk] at c2 g2
      clear hf HB hE hK hk he kb bw hW h hq
      go_region_held3 (fun V => V.cell? ⟨q, 2, none⟩ = some (.int .u8 1) ∧ V.cell? ⟨q, 3, none⟩ = some (.int .u32 x.s) ∧ V.cell? ⟨q, 4, none⟩ = some (.int .u16 x.e)) (first | exact ⟨c2, c3, c4⟩ | exact ⟨g2 _, g3 _, g4 _⟩)
        (first
        | (go_simp; go_at_call 21; refine (cE _ (by first | exact H.out.2.2 | exact H.out.2.2.alloc _)).mono ?_; rintro e w2 ⟨rfl, hw2⟩; replace hw2 := hw2.symm; subst hw2)
        | (go_simp; go_at_call 31; refine (cK _ _ (by show (W.alloc _).cell? _ = _; rw [World.cell?_alloc_mark]; rfl) (by exact H.out.2.2.alloc _)).mono ?_; rintro e w2 ⟨rfl, hw2⟩; replace hw2 := hw2.symm; subst hw2))
      all_goals (
        go_wp2
        go_ret
        exact ⟨by rw [HBB.out]; rfl, (H.out.2.1.alloc H.out.2.1.size _).drew⟩)
    · have heb : (x.e == (E : Int)) = false := by simp [he]
      have hf : B = false := by rw [HB.out]; unfold checkB; rw [← hE]; simp [he]
      have cE := fun d os => ends_regrown (c := c) a n zs H.out.2.2 d os
      simp only [← hE] at cE
      have k2 := fun d os => cell_regrown c2 d os
      have k3 := fun d os => cell_regrown c3 d os
      have k4 := fun d os => cell_regrown c4 d os
      clear HB hE hK hk he kb bw hW h hq
      subst hf
      refine wp_region_quiet_below (by kernel_rfl) (by kernel_rfl) ?_
      iterate 8 (quiet_step (fail))
      quiet_step (exact cE _ _)
      iterate 11 (quiet_step (fail))
      refine wpQuiet_nil ?_
      intro _ hw'
      obtain ⟨⟨dq, osq⟩, hw''⟩ := hw'
      subst hw''
      go_wp2
      go_ret
      exact ⟨rfl, H.out.2.1.trans ((below_regrown W dq osq).mono H.out.2.1.size)⟩
  · have hkb : (x.k == 1) = false := by simp [hk]
    have hf : B = false := by rw [HB.out]; unfold checkB; simp [hk]
    clear HB hE hK hk kb bw hW h hq
    subst hf
    go_quiet (fail)
    go_wp2
    go_ret
    exact ⟨rfl, below_drewN H.out.2.1 _⟩
set_option maxHeartbeats 2000000 in
theorem csame_of (s : Int) (A : Option Addr) (n C : Nat) (B : Option Addr) (m D : Nat) (xs : List It) (w : World) (hx : ItsIn w A n xs) (hy : ItsIn w B m xs) :
    Calls Try.prog 18 #[.agg #[.int .u64 s, .slice A n C], .agg #[.int .u64 s, .slice B m D]] w fun e w' => e = .returned (.bool true) ∧ Below w.heap.size w w' := by
  have hnm : n = m := by rw [← hx.1, ← hy.1]
  subst hnm
  obtain ⟨q, hq⟩ : ∃ q, q = w.heap.size := ⟨_, rfl⟩
  have k0 : Blk ((w.alloc (.cells #[.int .u64 s, .slice A n C] 25)).alloc (.cells #[.int .u64 s, .slice B n D] 25)) q [.int .u64 s, .slice A n C] 25 := (Blk.new' hq.symm rfl).alloc _
  have k1 : Blk ((w.alloc (.cells #[.int .u64 s, .slice A n C] 25)).alloc (.cells #[.int .u64 s, .slice B n D] 25)) (q + 1) [.int .u64 s, .slice B n D] 25 := Blk.new' (by simp [hq]) rfl
  have bw : Below w.heap.size w ((w.alloc (.cells #[.int .u64 s, .slice A n C] 25)).alloc (.cells #[.int .u64 s, .slice B n D] 25)) := ((Below.refl _ _).alloc (Nat.le_refl _) _).alloc (by simp) _
  have hm := hx.2.1
  unfold maxLen at hm
  go_enter Try.func18, Try.ntmps18
  go_upto_region 1 with fail
  rw [← hq]
  generalize hW : World.alloc (World.alloc w _) _ = W at k0 k1 bw ⊢
  have H : Hid (Below w.heap.size w W ∧ ItsIn W A n xs ∧ ItsIn W B n xs) := ⟨bw, hx.below bw, hy.below bw⟩
  have c0 : W.cell? ⟨q, 0, none⟩ = some (.int .u64 s) := k0.cell 0
  have c1 : W.cell? ⟨q, 1, none⟩ = some (.slice A n C) := k0.cell 1
  have d0 : W.cell? ⟨q + 1, 0, none⟩ = some (.int .u64 s) := k1.cell 0
  have d1 : W.cell? ⟨q + 1, 1, none⟩ = some (.slice B n D) := k1.cell 1
  clear k0 k1 bw hW hq hx hy
  have hnn : ((n : Int) != (n : Int)) = false := by simp
  have hss : (s != s) = false := by simp
  go_wp2
  go_loopw [5] (fun x wr => ∃ (i k : Nat), x = .int .i64 i ∧ i ≤ n ∧ wr = W.drewN k) (fun x _ => n - (intOf x).toNat)
  case atStart => exact ⟨0, 0, rfl, Nat.zero_le _, rfl⟩
  case round =>
    obtain ⟨i, k, rfl, hi, rfl⟩ := hrel
    rcases Nat.lt_or_ge i n with hlt | hge
    · obtain ⟨x, hx⟩ : ∃ x, xs[i]? = some x := ⟨xs[i]'(by have := H.out.2.1.1; omega), by simp⟩
      obtain ⟨b1, o1, rfl, hc1⟩ := H.out.2.1.2.2.2.resolve_left (by omega)
      obtain ⟨b2, o2, rfl, hc2⟩ := H.out.2.2.2.2.2.resolve_left (by omega)
      have f0 : W.cell? ⟨b1, o1 + i * 5, none⟩ = some (.int .u32 x.t) := hc1 i x hx 0 _ rfl
      have f1 : W.cell? ⟨b1, o1 + i * 5 + 1, none⟩ = some (.int .u64 x.b) := hc1 i x hx 1 _ rfl
      have f2 : W.cell? ⟨b1, o1 + i * 5 + 2, none⟩ = some (.int .u8 x.k) := hc1 i x hx 2 _ rfl
      have f3 : W.cell? ⟨b1, o1 + i * 5 + 3, none⟩ = some (.int .u32 x.s) := hc1 i x hx 3 _ rfl
      have f4 : W.cell? ⟨b1, o1 + i * 5 + 4, none⟩ = some (.int .u16 x.e) := hc1 i x hx 4 _ rfl
      have g0 : W.cell? ⟨b2, o2 + i * 5, none⟩ = some (.int .u32 x.t) := hc2 i x hx 0 _ rfl
      have g1 : W.cell? ⟨b2, o2 + i * 5 + 1, none⟩ = some (.int .u64 x.b) := hc2 i x hx 1 _ rfl
      have g2 : W.cell? ⟨b2, o2 + i * 5 + 2, none⟩ = some (.int .u8 x.k) := hc2 i x hx 2 _ rfl
      have g3 : W.cell? ⟨b2, o2 + i * 5 + 3, none⟩ = some (.int .u32 x.s) := hc2 i x hx 3 _ rfl
      have g4 : W.cell? ⟨b2, o2 + i * 5 + 4, none⟩ = some (.int .u16 x.e) := hc2 i x hx 4 _ rfl
      have hi' : (i : Int) < n := by omega
      clear hc1 hc2 hx
      go_wp2
      go_quiet (fail)
      go_wp2
      go_roundw
      case rel => exact ⟨i + 1, _, by go_num, by omega, rfl⟩
      case measure => simp [intOf]; omega
    · have hge' : (n : Int) ≤ i := by omega
      go_wp2
      go_ret
      exact ⟨rfl, below_drewN H.out.1 k⟩
end Go.Proofs.Ytggeadjebkhomaa
