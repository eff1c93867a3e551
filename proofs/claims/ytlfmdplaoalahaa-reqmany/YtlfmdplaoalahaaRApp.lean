/- Appending one value to a row of the call's own, of any kind; lists of lists of bytes; a map of lengths; what one call of dataLength does. -/
import Derived.Test.YtlfmdplaoalahaaRNext
import Derived.Maps.OwnSet
import Derived.WalkArith
namespace Go.Proofs.Ytlfmdplaoalahaa
open Go.RowKit
set_option linter.unusedVariables false
set_option maxRecDepth 4000

theorem run_append_one {e t ty : TypeId} {size : Nat} {z : Value} (ht : Try.prog.underlying t = some (.slice e)) (hinfo : (Try.prog.info? e).map (fun i => (i.zero, i.size, i.bytes)) = some (some z, 1, size)) (hz : z.cells.size = 1) (hsz : size ≤ 24)
    {w : World} (base : Nat) (a0 : Option Addr) (n0 c0 : Nat) (xs : List Value) (hown : w.ownsRow base e 1 (.slice a0 n0 c0) n0 xs)
    (g c1 : Nat) (v : Value) (hc : w.cell? ⟨g, 0, none⟩ = some v) (h1 : v.oneCell' = true) (hle : n0 + 1 ≤ 1000000) (hbase : base ≤ w.heap.size) :
    ∃ a' c' w', (Builtin.append_ #[t, t] ty #[.slice a0 n0 c0, .slice (some ⟨g, 0, none⟩) 1 c1]).run Try.prog w = .ok (.slice a' (n0 + 1) c') w' ∧ w'.ownsRow base e 1 (.slice a' (n0 + 1) c') (n0 + 1) (xs ++ [v]) ∧ Below base w w' ∧ w.grownBy w' (Value.slice a0 n0 c0).ownBlock := by
  obtain ⟨i0, hi, hz0, hz1, hz2⟩ := info_parts hinfo
  have hle' := Nat.mul_le_mul hle hsz
  obtain ⟨v', w', hrun, hown', hgrow, _⟩ := run_append_own (P := Try.prog) w base t ty e i0 z 1 size ht hi hz0 hz1 hz2 hz (by decide) _ n0 xs hown ⟨g, 0, none⟩ 1 c1 [v] rfl (by
    intro j u hj
    match j, hj with
    | 0, hj =>
      simp at hj
      subst hj
      exact hc) (by intro u hu; simp at hu; subst hu; exact h1) (by unfold maxLen; omega) (by omega) hbase
  have hb : Below base w w' := (Below.refl base w).grown hgrow hbase (fun k hk => (hown.lt k hk).1)
  obtain ⟨a', c', rfl⟩ : ∃ a' c', v' = .slice a' (n0 + 1) c' := by
    rcases hown'.2 with ⟨hv, hn⟩ | ⟨g, cap, cur, hv, _⟩
    · omega
    · exact ⟨_, _, hv⟩
  exact ⟨a', c', w', hrun, hown', hb, hgrow⟩
theorem wpList_append_one {e t : TypeId} {size : Nat} {z : Value} (ht : Try.prog.underlying t = some (.slice e)) (hinfo : (Try.prog.info? e).map (fun i => (i.zero, i.size, i.bytes)) = some (some z, 1, size)) (hz : z.cells.size = 1) (hsz : size ≤ 24)
    {ops : Array Oper} {rest : List Oper} {o : Oper} {a : Act} {Q : Exit → Act → World → Prop} {w : World} (hgd : o.guard = none) (s x : Operand)
    (ho : o.op = .call { callee := .builtin .append, args := #[s, x], argTypes := #[t, t] }) (base : Nat)
    (a0 : Option Addr) (n0 c0 : Nat) (xs : List Value) (hs : a.eval s = .slice a0 n0 c0) (hown : w.ownsRow base e 1 (.slice a0 n0 c0) n0 xs)
    (g c1 : Nat) (v : Value) (hx : a.eval x = .slice (some ⟨g, 0, none⟩) 1 c1) (hc : w.cell? ⟨g, 0, none⟩ = some v) (h1 : v.oneCell' = true)
    (hle : n0 + 1 ≤ 1000000) (hbase : base ≤ w.heap.size)
    (h : ∀ a' c' w', w'.ownsRow base e 1 (.slice a' (n0 + 1) c') (n0 + 1) (xs ++ [v]) → Below base w w' → w.grownBy w' (Value.slice a0 n0 c0).ownBlock → wpList Try.prog ops Q rest (a.put o.dst (.slice a' (n0 + 1) c')) w') :
    wpList Try.prog ops Q (o :: rest) a w := by
  obtain ⟨a', c', w', hrun, h2, h3, h4⟩ := run_append_one (ty := o.type) ht hinfo hz hsz base a0 n0 c0 xs hown g c1 v hc h1 hle hbase
  refine wpList_plain hgd fun _ hK => ?_
  unfold Oper.wp
  simp [execOp, ho, resolve, invoke, builtin, hs, hx, hrun, Result.andThen]
  exact hK _ _ (h a' c' w' h2 h3 h4)
theorem step_append_one {e t : TypeId} {size : Nat} {z : Value} (ht : Try.prog.underlying t = some (.slice e)) (hinfo : (Try.prog.info? e).map (fun i => (i.zero, i.size, i.bytes)) = some (some z, 1, size)) (hz : z.cells.size = 1) (hsz : size ≤ 24)
    {ops : Array Oper} {o : Oper} {a : Act} {w : World} {K : Act → World → Prop} {Q : Exit → Act → World → Prop} {E : Prop} (hg : o.guard = none) (s x : Operand)
    (hop : o.op = .call { callee := .builtin .append, args := #[s, x], argTypes := #[t, t] }) (base : Nat)
    (a0 : Option Addr) (n0 c0 : Nat) (xs : List Value) (hs : a.eval s = .slice a0 n0 c0) (hown : w.ownsRow base e 1 (.slice a0 n0 c0) n0 xs)
    (g c1 : Nat) (v : Value) (hx : a.eval x = .slice (some ⟨g, 0, none⟩) 1 c1) (hc : w.cell? ⟨g, 0, none⟩ = some v) (h1 : v.oneCell' = true)
    (hle : n0 + 1 ≤ 1000000) (hbase : base ≤ w.heap.size)
    (hK : ∀ a' c' w', w'.ownsRow base e 1 (.slice a' (n0 + 1) c') (n0 + 1) (xs ++ [v]) → Below base w w' → w.grownBy w' (Value.slice a0 n0 c0).ownBlock → K (a.put o.dst (.slice a' (n0 + 1) c')) w') :
    if Region.wanted o (yielded ops a.tmps) = true then Oper.wp Try.prog o a w K Q else E := by
  have hw : Region.wanted o (yielded ops a.tmps) = true := by simp [Region.wanted, hg]
  rw [if_pos hw]
  obtain ⟨a', c', w', hrun, h2, h3, h4⟩ := run_append_one (ty := o.type) ht hinfo hz hsz base a0 n0 c0 xs hown g c1 v hc h1 hle hbase
  unfold Oper.wp
  simp [execOp, hop, resolve, invoke, builtin, hs, hx, hrun, Result.andThen]
  exact hK _ _ _ h2 h3 h4
theorem Try.zero_u32 : (Try.prog.info? 26).map (fun i => (i.zero, i.size, i.bytes)) = some (some (.int .u32 0), 1, 4) := by kernel_rfl
theorem Try.zero_bytes : (Try.prog.info? 22).map (fun i => (i.zero, i.size, i.bytes)) = some (some (.slice none 0 0), 1, 24) := by kernel_rfl

/-- Lists of bytes whose headers lie one behind the other. -/
def BsIn (w : World) (a : Option Addr) (n : Nat) (Ds : List (List Int)) : Prop :=
  Ds.length = n ∧ n ≤ maxLen ∧ (n = 0 ∨ ∃ b off, a = some ⟨b, off, none⟩ ∧ ∀ (i : Nat) (D : List Int), Ds[i]? = some D → ∃ A L C, w.cell? ⟨b, off + i, none⟩ = some (.slice A L C) ∧ BIn w A L D)
theorem BsIn.below {w w' : World} {a : Option Addr} {n : Nat} {Ds : List (List Int)} (h : BsIn w a n Ds) (hb : Below w.heap.size w w') : BsIn w' a n Ds := by
  obtain ⟨h1, h2, h3⟩ := h
  refine ⟨h1, h2, ?_⟩
  rcases h3 with h3 | ⟨b, off, ha, hc⟩
  · exact .inl h3
  · refine .inr ⟨b, off, ha, fun i D hi => ?_⟩
    obtain ⟨A, L, C, h4, h5⟩ := hc i D hi
    exact ⟨A, L, C, by rw [hb.cell (old_block h4)]; exact h4, h5.below hb⟩
/-- Lists of bytes of the call's own. -/
def DsOwn (V : World) (base : Nat) (vs : List Value) (Ds : List (List Int)) : Prop :=
  vs.length = Ds.length ∧ ∀ (i : Nat) (D : List Int), Ds[i]? = some D → ∃ A L C, vs[i]? = some (Value.slice A L C) ∧ V.ownsRow base 5 1 (.slice A L C) L (u8s D) ∧ L ≤ 1000000 ∧ ∀ z ∈ D, Fits8 z
theorem DsOwn.nil (V : World) (base : Nat) : DsOwn V base [] [] := ⟨rfl, fun i D h => by simp at h⟩
theorem DsOwn.map {V V' : World} {base : Nat} {vs : List Value} {Ds : List (List Int)} (h : DsOwn V base vs Ds) (hk : ∀ A L C D, V.ownsRow base 5 1 (.slice A L C) L (u8s D) → V'.ownsRow base 5 1 (.slice A L C) L (u8s D)) : DsOwn V' base vs Ds := by
  refine ⟨h.1, fun i D hi => ?_⟩
  obtain ⟨A, L, C, h1, h2, h3, h4⟩ := h.2 i D hi
  exact ⟨A, L, C, h1, hk _ _ _ _ h2, h3, h4⟩
theorem DsOwn.snoc {V : World} {base : Nat} {vs : List Value} {Ds : List (List Int)} (h : DsOwn V base vs Ds) {A : Option Addr} {L C : Nat} {D : List Int} (ho : V.ownsRow base 5 1 (.slice A L C) L (u8s D)) (hl : L ≤ 1000000) (hf : ∀ z ∈ D, Fits8 z) : DsOwn V base (vs ++ [Value.slice A L C]) (Ds ++ [D]) := by
  refine ⟨by rw [List.length_append, List.length_append, h.1]; rfl, fun i E hi => ?_⟩
  by_cases hlt : i < Ds.length
  · rw [List.getElem?_append_left hlt] at hi
    rw [List.getElem?_append_left (by rw [h.1]; exact hlt)]
    exact h.2 i E hi
  · have hi' : i = Ds.length := by
      have := (List.getElem?_eq_some_iff.1 hi).1
      simp at this
      omega
    subst hi'
    simp at hi
    subst hi
    exact ⟨A, L, C, by rw [← h.1]; simp, ho, hl, hf⟩
theorem DsOwn.bsin {V : World} {base B : Nat} {vs : List Value} {Ds : List (List Int)} (h : DsOwn V base vs Ds) {A : Option Addr} {k C : Nat} (ho : V.ownsRow B 22 1 (.slice A k C) k vs) (hk : k ≤ 1000000) : BsIn V A k Ds := by
  have hl : vs.length = k := by have := ho.1; omega
  refine ⟨by rw [← h.1, hl], by unfold maxLen; omega, ?_⟩
  rcases ho.2 with ⟨hv, hn⟩ | ⟨g, cap, cur, hv, hb, hg, hc, hcm, hsz, htake⟩
  · exact .inl hn
  · cases hv
    refine .inr ⟨g, 0, rfl, fun i D hi => ?_⟩
    obtain ⟨A', L, C', h1, h2, h3, h4⟩ := h.2 i D hi
    have hcl := ho.cells (g := g) rfl i _ h1
    rw [Addr.add_mid] at hcl
    exact ⟨A', L, C', hcl, own_bin h2 (by unfold maxLen; omega) h4⟩

/-- A map of lengths: what it has for a number. -/
def MIn (w : World) (v : Value) (f : Int → Int) : Prop :=
  (∀ k, Fits32 (f k)) ∧ ∃ m : Option Nat, v = .map m ∧ (∀ b, m = some b → b < w.heap.size) ∧ ∀ w' : World, (∀ b, m = some b → w'.heap[b]? = w.heap[b]?) → ∀ k, FitsU k → (Instr.lookup 41 v (.int .u64 k) false).run Try.prog w' = .ok (.int .u32 (f k)) w'
theorem MIn.below {w w' : World} {v : Value} {f : Int → Int} (h : MIn w v f) (hb : Below w.heap.size w w') : MIn w' v f := by
  obtain ⟨h1, m, rfl, h3, h4⟩ := h
  exact ⟨h1, m, rfl, fun b hm => Nat.lt_of_lt_of_le (h3 b hm) hb.size, fun w'' hs k hk => h4 w'' (fun b hm => by rw [hs b hm, hb.block b (h3 b hm)]) k hk⟩
theorem MIn.look {w : World} {v : Value} {f : Int → Int} (h : MIn w v f) {w' : World} (hb : Below w.heap.size w w') (k : Int) (hk : FitsU k) : (Instr.lookup 41 v (.int .u64 k) false).run Try.prog w' = .ok (.int .u32 (f k)) w' := by
  obtain ⟨_, m, rfl, h3, h4⟩ := h
  exact h4 w' (fun b hm => hb.block b (h3 b hm)) k hk
theorem dataLength_of (A c : Int) (v : Value) (f : Int → Int) (w : World) (hm : MIn w v f) (hc : FitsU c) :
    Calls Try.prog 34 #[.int .u32 A, .int .u64 c, v] w fun e w' => e = .returned (.int .u32 (if A = 0 then f c else 0)) ∧ w' = w := by
  have hl := hm.look (Below.refl _ _) c hc
  obtain ⟨N, hN⟩ : ∃ N, N = (if A = 0 then f c else 0) := ⟨_, rfl⟩
  rw [← hN]
  by_cases h0 : A = 0
  · subst h0
    rw [if_pos rfl] at hN
    subst hN
    go_enter Try.func34, Try.ntmps34
    go_wp2
    go_ret
    exact ⟨rfl, rfl⟩
  · rw [if_neg h0] at hN
    subst hN
    have hb : (A != 0) = true := by simp [h0]
    go_enter Try.func34, Try.ntmps34
    go_wp2
    go_ret
    exact ⟨rfl, rfl⟩
end Go.Proofs.Ytlfmdplaoalahaa
