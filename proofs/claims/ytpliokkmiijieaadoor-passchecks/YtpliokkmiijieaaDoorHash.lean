/- A hash in memory; laws for a region whose order is open but for its tail; a copy into a hash's waiting bytes. -/
import Derived.Test.YtpliokkmiijieaaDoorOnly
import Derived.StillTailTactics
namespace Go.Proofs.YtpliokkmiijieaaDoor
open Go.RowKit
set_option linter.unusedVariables false
set_option maxRecDepth 4000

/-! ### Laws for the walk -/
theorem region_tail {P : Program} {id : Nat} {Q : Exit → Act → World → Prop} {a : Act} {w : World} {l : List Oper} (n : Nat) (hm : P.follows .mixedOrders = true) (hB : Region.lexTailB .any l.toArray n = true)
    (h : wpStill P l.toArray w.drew (fun a' => wpList P l.toArray Q (l.drop n) a' w.drew) (l.take n) a) : (Code.region id l.toArray true).wp P Q a w := wp_region_still_tail n hm hB h
theorem still_load {P : Program} {ops : Array Oper} {rest : List Oper} {o : Oper} {a : Act} {w : World} {Q : Act → Prop} (hgd : o.guard = none) (ty : TypeId) (x : Operand) (ho : o.op = .load ty x)
    (b off : Nat) (hx : a.eval x = .pointer (some ⟨b, off, none⟩)) (cs : List Value) (d : TypeDesc) (hc : w.rangeAt b off cs)
    (hu : P.underlying ty = some d) (hd : d.isRow = true) (hi : (P.info? ty).map (·.size) = some cs.length)
    (h : wpStill P ops w Q rest (a.put o.dst (.agg cs.toArray))) : wpStill P ops w Q (o :: rest) a := by
  refine wpStill_step fun K hK => ?_
  have hw : Region.wanted o (yielded ops a.tmps) = true := by simp [Region.wanted, hgd]
  rw [if_pos hw]
  unfold Oper.still execOp
  simp only [ho, hx, Instr.loadAt, Instr.sureAddr, Sem.run_bind, Sem.run_pure, Result.andThen_ok, run_loadVar_mid w b off ty cs d hc hu hd hi]
  rw [Oper.stillUpon_value]
  exact hK _ h
theorem ready_load {P : Program} {md : Region.Mode} {ops : Array Oper} {Q : Exit → Act → World → Prop} {fuel : Nat} {listed : Array Bool} {a : Act} {w : World} {i : Nat} {rs : List Nat} (o : Oper) (ho : ops[i]? = some o) (hgd : o.guard = none) (ty : TypeId) (x : Operand) (hop : o.op = .load ty x)
    (b off : Nat) (hx : a.eval x = .pointer (some ⟨b, off, none⟩)) (cs : List Value) (d : TypeDesc) (hc : w.rangeAt b off cs)
    (hu : P.underlying ty = some d) (hd : d.isRow = true) (hi : (P.info? ty).map (·.size) = some cs.length)
    (h : wpAny P md ops Q fuel (listed.setIfInBounds i true) (a.put o.dst (.agg cs.toArray)) w) (hs : AllReady P md ops Q fuel listed a w rs) : AllReady P md ops Q fuel listed a w (i :: rs) :=
  AllReady.cons ho (fun K hK => by
    rw [if_pos (by simp [Region.wanted, hgd])]
    exact wp_load_mid ty x hop b off hx cs d hc hu hd hi (hK _ _ h)) hs
theorem ready_store {P : Program} {md : Region.Mode} {ops : Array Oper} {Q : Exit → Act → World → Prop} {fuel : Nat} {listed : Array Bool} {a : Act} {w : World} {i : Nat} {rs : List Nat} (o : Oper) (ho : ops[i]? = some o) (hgd : o.guard = none) (ty : TypeId) (x y : Operand) (hop : o.op = .store ty x y)
    (b off : Nat) (cells : Array Value) (hx : a.eval x = .pointer (some ⟨b, off, none⟩)) (hy : a.eval y = .agg cells) (ht : w.there b off cells.size) (hi : (P.info? ty).map (·.size) = some cells.size) (h1 : cells.all (·.oneCell') = true)
    (h : wpAny P md ops Q fuel (listed.setIfInBounds i true) (a.put o.dst undef) (w.setCells b off cells.toList)) (hs : AllReady P md ops Q fuel listed a w rs) : AllReady P md ops Q fuel listed a w (i :: rs) :=
  AllReady.cons ho (fun K hK => by
    rw [if_pos (by simp [Region.wanted, hgd])]
    exact wp_store_mid ty x y hop b off cells hx hy ht hi h1 (hK _ _ h)) hs
theorem only_setRow (w : World) (g : Nat) (cs : Array Value) : Only g w (w.setRow g cs) :=
  ⟨rfl, rfl, rfl, by simp [World.setRow], fun k _ hg => setRow_other w g k cs hg⟩
theorem wpList_copy_only {P : Program} {w : World} {ops : Array Oper} {rest : List Oper} {o : Oper} {a : Act} {Q : Exit → Act → World → Prop} (hgd : o.guard = none) (d s : Operand) (dT sT : TypeId)
    (ho : o.op = .call { callee := .builtin .copy, args := #[d, s], argTypes := #[dT, sT] }) (elem : TypeId) (hu : P.underlying dT = some (.slice elem)) (hsz : (P.info? elem).map (·.size) = some 1)
    (g off dLen dCap : Nat) (ad : Addr) (sLen sCap : Nat) (hd : a.eval d = .slice (some ⟨g, off, none⟩) dLen dCap) (hs : a.eval s = .slice (some ad) sLen sCap)
    (cur : List Value) (t : TypeId) (hg : Blk w g cur t) (cs : List Value) (hn : cs.length = Nat.min sLen dLen)
    (hsrc : ∀ j v, cs[j]? = some v → w.cell? (ad.add j) = some v) (hfit : off + cs.length ≤ cur.length) (h1 : ∀ v ∈ cs, v.oneCell' = true)
    (h : ∀ w', Blk w' g (splice cur off cs) t → Only g w w' → wpList P ops Q rest (a.put o.dst (goInt cs.length)) w') : wpList P ops Q (o :: rest) a w := by
  refine wpList_copy_own hgd d s dT sT ho elem hu hsz g off dLen dCap ad sLen sCap hd hs cur.toArray t hg cs hn hsrc (by simpa using hfit) h1 ?_
  refine h _ ?_ (only_setRow _ _ _)
  show _ = _
  simpa [splice] using setRow_heap w g _ _ t _ hg

/-! ### A hash in memory -/
def hashCells (s : St) : List Value := u32s s.S ++ (u8s s.R ++ [.int .u64 s.T])
def HIn (w : World) (g : Nat) (s : St) : Prop := Blk w g (hashCells s) 100 ∧ s.Wf
theorem HIn.only {w w' : World} {g k : Nat} {s : St} (h : HIn w k s) (ho : Only g w w') (hne : k ≠ g) : HIn w' k s := ⟨h.1.only ho hne, h.2⟩
theorem HIn.below {w w' : World} {B k : Nat} {s : St} (h : HIn w k s) (ho : Below B w w') (hk : k < B) : HIn w' k s := ⟨h.1.below ho hk, h.2⟩
theorem HIn.alloc {w : World} {k : Nat} {s : St} (h : HIn w k s) (o : Obj) : HIn (w.alloc o) k s := ⟨h.1.alloc o, h.2⟩
theorem hash_len {s : St} (h : s.Wf) : (hashCells s).length = 73 := by simp [hashCells, u32s_length, u8s_length, h.1, h.2.2.1]
theorem hash_taken {s : St} (h : s.Wf) : (hashCells s)[72]? = some (.int .u64 s.T) := by
  unfold hashCells
  rw [List.getElem?_append_right (by simp [u32s_length, h.1]), List.getElem?_append_right (by simp [u32s_length, u8s_length, h.1, h.2.2.1])]
  simp [u32s_length, u8s_length, h.1, h.2.2.1]
theorem hash_state {s : St} (h : s.Wf) (i : Nat) (hi : i < 8) : (hashCells s)[i]? = (u32s s.S)[i]? := by
  unfold hashCells; rw [List.getElem?_append_left (by simp [u32s_length, h.1]; omega)]
theorem hash_rest {s : St} (h : s.Wf) (i : Nat) (hi : i < 64) : (hashCells s)[8 + i]? = (u8s s.R)[i]? := by
  unfold hashCells
  rw [List.getElem?_append_right (by simp [u32s_length, h.1]), List.getElem?_append_left (by simp [u32s_length, u8s_length, h.1, h.2.2.1]; omega)]
  simp [u32s_length, h.1]
theorem HIn.state {w : World} {g : Nat} {s : St} (h : HIn w g s) : w.rangeAt g 0 (u32s s.S) := h.1.range 0 _ (fun j hj => by rw [Nat.zero_add]; exact hash_state h.2 j (by rw [u32s_length, h.2.1] at hj; exact hj))
theorem HIn.rest {w : World} {g : Nat} {s : St} (h : HIn w g s) : w.rangeAt g 8 (u8s s.R) := h.1.range 8 _ (fun j hj => hash_rest h.2 j (by rw [u8s_length, h.2.2.2.1] at hj; exact hj))
theorem HIn.taken {w : World} {g : Nat} {s : St} (h : HIn w g s) : w.cell? ⟨g, 72, none⟩ = some (.int .u64 s.T) := by rw [h.1.cell]; exact hash_taken h.2
theorem hash_splice {s : St} (h : s.Wf) (o : Nat) (zs : List Int) (hl : o + zs.length ≤ 64) : splice (hashCells s) (8 + o) (u8s zs) = hashCells ⟨s.S, splice s.R o zs, s.T⟩ := by
  have e : (u32s s.S).length = 8 := by rw [u32s_length, h.1]
  have eR : (u8s s.R).length = 64 := by rw [u8s_length, h.2.2.1]
  unfold splice hashCells
  rw [List.take_append, List.drop_append, e]
  have a1 : (u32s s.S).take (8 + o) = u32s s.S := List.take_of_length_le (by omega)
  have a2 : (u32s s.S).drop (8 + o + (u8s zs).length) = [] := List.drop_eq_nil_of_le (by omega)
  have a3 : 8 + o - 8 = o := by omega
  have a4 : 8 + o + (u8s zs).length - 8 = o + zs.length := by rw [u8s_length]; omega
  rw [a1, a2, a3, a4, List.take_append_of_le_length (by omega), List.drop_append_of_le_length (by omega)]
  simp [u8s]
theorem hash_setT {s : St} (h : s.Wf) (T : Nat) : (hashCells s).set 72 (.int .u64 T) = hashCells ⟨s.S, s.R, T⟩ := by
  unfold hashCells
  rw [List.set_append_right _ _ (by simp [u32s_length, h.1]), List.set_append_right _ _ (by simp [u32s_length, u8s_length, h.1, h.2.2.1])]
  simp [u32s_length, u8s_length, h.1, h.2.2.1]
theorem hash_setS {s : St} (h : s.Wf) (S : List Int) (hS : S.length = 8) : splice (hashCells s) 0 (u32s S) = hashCells ⟨S, s.R, s.T⟩ := by
  have e : (u32s s.S).length = 8 := by rw [u32s_length, h.1]
  unfold splice hashCells
  rw [List.drop_append, e]
  have a2 : (u32s s.S).drop (0 + (u32s S).length) = [] := List.drop_eq_nil_of_le (by have := u32s_length S; omega)
  rw [a2, u32s_length, hS]
  simp

/-- So many bytes that wait for a whole block. -/
theorem take_part (zs : List Int) : ∀ (s : St), 0 < zs.length → s.R.length = 64 → zs.length ≤ 64 - s.T % 64 →
    takeI s zs = if (s.T + zs.length) % 64 = 0 then ⟨mixI s.S (splice s.R (s.T % 64) zs), splice s.R (s.T % 64) zs, s.T + zs.length⟩ else ⟨s.S, splice s.R (s.T % 64) zs, s.T + zs.length⟩ := by
  induction zs with
  | nil => intro s h; simp at h
  | cons z r ih =>
    intro s _ hR hl
    have hl' : r.length + 1 ≤ 64 - s.T % 64 := by simpa using hl
    have ho : s.T % 64 < s.R.length := by omega
    have e : splice (s.R.set (s.T % 64) z) (s.T % 64 + 1) r = splice s.R (s.T % 64) (z :: r) := by
      unfold splice
      have h1 : (s.R.set (s.T % 64) z).take (s.T % 64 + 1) = s.R.take (s.T % 64) ++ [z] := by
        rw [List.take_succ_eq_append_getElem (by simpa using ho)]; simp [List.take_set_of_le]
      have h2 : (s.R.set (s.T % 64) z).drop (s.T % 64 + 1 + r.length) = s.R.drop (s.T % 64 + (r.length + 1)) := by
        rw [List.drop_set_of_lt (by omega)]; congr 1; omega
      rw [h1, h2]; simp
    show takeI (stepB s z) r = _
    by_cases hr : r = []
    · subst hr
      have e0 : splice s.R (s.T % 64) [z] = s.R.set (s.T % 64) z := by rw [← e]; simp [splice]
      simp only [takeI, List.foldl_nil, List.length_cons, List.length_nil, Nat.zero_add, e0]
      rfl
    · have hpos : 0 < r.length := List.length_pos_iff.2 hr
      have hm : (s.T + 1) % 64 = s.T % 64 + 1 := by omega
      have hs : stepB s z = ⟨s.S, s.R.set (s.T % 64) z, s.T + 1⟩ := by unfold stepB; rw [if_neg (by omega)]
      rw [hs, ih _ hpos (by simp [hR]) (by show r.length ≤ 64 - (s.T + 1) % 64; omega)]
      have hc : s.T + 1 + r.length = s.T + (z :: r).length := by simp; omega
      simp only [hm, e, hc]
end Go.Proofs.YtpliokkmiijieaaDoor
