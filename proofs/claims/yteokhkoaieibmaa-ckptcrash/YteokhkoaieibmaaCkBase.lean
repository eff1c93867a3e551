/- Things of general use, as rec has them. -/
import Derived.Test.YteokhkoaieibmaaCkMath
import Derived.Test.YteokhkoaieibmaaWLaw
import Derived.Test.YteokhkoaieibmaaCSum
import Derived.Test.YteokhkoaieibmaaZRight
import Derived.BigQuiet
import Derived.BigRegion
import Derived.Laws.ResultCell
import Derived.Deep.RegionLaw
import Derived.Deep.RegionHeld3
import Derived.Defers
import Derived.Recover
namespace Go.Proofs.Yteokhkoaieibmaa
open Go.RowKit
set_option linter.unusedVariables false
set_option maxRecDepth 4000

theorem and_ofR {b : Int} (h1 : 64 ≤ b) (h2 : b ≤ 4096) : bits BinOp.and IntKind.i64 b (b - 1) = 0 ↔ b ∈ PowR := and_of h1 h2
theorem nin_lit (t : TypeId) {w : World} {g n : Nat} {L : List Int} {C : Array Value} {fr : Nat × Nat} (hk : w.heap.size = g) (hC : C = (kInts .i64 L).toArray) (hn : L.length = n) (hf : (L.all fun z => (Lit.int .i64 z).wf) = true) (hm : n ≤ 1000) :
    NIn .i64 (w.alloc (.cells C t fr)) (some ⟨g, 0, none⟩) n L := new_nin hk hC hn (List.all_eq_true.1 hf) (by unfold maxLen; omega)
theorem nin_litU (t : TypeId) {w : World} {g n : Nat} {L : List Int} {C : Array Value} {fr : Nat × Nat} (hk : w.heap.size = g) (hC : C = (kInts .u64 L).toArray) (hn : L.length = n) (hf : ∀ z ∈ L, FitsU z) (hm : n ≤ 1000) :
    NIn .u64 (w.alloc (.cells C t fr)) (some ⟨g, 0, none⟩) n L := new_nin hk hC hn (fun z hz => wfU (hf z hz)) (by unfold maxLen; omega)
theorem str_ne {xs ys : List Int} (hx : ∀ z ∈ xs, Fits8 z) (hy : ∀ z ∈ ys, Fits8 z) (h : xs ≠ ys) : strOfNums xs ≠ strOfNums ys := by
  intro e
  apply h
  have e1 : (xs.map fun n => UInt8.ofNat n.toNat) = ys.map fun n => UInt8.ofNat n.toNat := by rw [← strOfNums_data, ← strOfNums_data, e]
  have hl : xs.length = ys.length := by simpa using congrArg List.length e1
  apply List.ext_getElem hl
  intro i h1 h2
  have e2 : (xs.map fun n => UInt8.ofNat n.toNat)[i]'(by simpa using h1) = (ys.map fun n => UInt8.ofNat n.toNat)[i]'(by simpa using h2) := by simp only [e1]
  simp only [List.getElem_map] at e2
  have e3 := congrArg UInt8.toNat e2
  have f1 := hx _ (List.getElem_mem h1)
  have f2 := hy _ (List.getElem_mem h2)
  unfold Fits8 at f1 f2
  simp only [UInt8.toNat_ofNat'] at e3
  omega
theorem str_other {xs ys : List Int} (hx : ∀ z ∈ xs, Fits8 z) (hy : ∀ z ∈ ys, Fits8 z) (h : xs ≠ ys) : ((strOfNums xs).toList == (strOfNums ys).toList) = false := by
  rw [beq_eq_false_iff_ne]
  intro e
  rw [Lib.strOfNums_toList, Lib.strOfNums_toList] at e
  refine str_ne hx hy h ?_
  have e1 : (strOfNums xs).data.toList = (strOfNums ys).data.toList := e
  have e2 : (strOfNums xs).data = (strOfNums ys).data := Array.toList_inj.1 e1
  exact congrArg ByteArray.mk e2
/-- Are lists of bytes alike? -/
theorem equal_of (a : Option Addr) (n c : Nat) (xs : List Int) (b : Option Addr) (m d : Nat) (ys : List Int) (w : World) (hx : BIn w a n xs) (hy : BIn w b m ys) :
    Calls Try.prog 44 #[.slice a n c, .slice b m d] w fun e w' => e = .returned (.bool (decide (xs = ys))) ∧ w' = w := by
  have h1 := str_of w a n c xs hx
  have h2 := str_of w b m d ys hy
  by_cases h : xs = ys
  · subst h
    simp only [decide_true]
    go_enter Try.func44, Try.ntmps44
    go_wp2
    go_ret
    exact ⟨rfl, rfl⟩
  · have h3 := str_other hx.2.2.1 hy.2.2.1 h
    rw [decide_eq_false h]
    clear h hx hy
    go_enter Try.func44, Try.ntmps44
    go_wp2
    go_ret
    exact ⟨rfl, rfl⟩
def pwR (k : Nat) : Int := 64 * 2 ^ k
theorem pwR_at : ∀ k : Fin 7, PowR[k.val]? = some (pwR k.val) ∧ 64 ≤ pwR k.val ∧ pwR k.val ≤ 4096 ∧ pwR (k.val + 1) = 2 * pwR k.val := by decide
theorem pwR_mem {b : Int} : b ∈ PowR ↔ ∃ k, k < 7 ∧ b = pwR k := by
  constructor
  · intro h
    obtain ⟨k, hk⟩ := List.getElem?_of_mem h
    have hl : k < 7 := (List.getElem?_eq_some_iff.1 hk).1
    rw [(pwR_at ⟨k, hl⟩).1] at hk
    exact ⟨k, hl, by simpa using hk.symm⟩
  · rintro ⟨k, hk, rfl⟩
    exact List.mem_of_getElem? (pwR_at ⟨k, hk⟩).1
def diedE (s : ByteArray) : Ending := .panicked [{ v := .iface 9 (.string s), recovered := false }]
theorem cmade_bytes (n : Nat) (w : World) : Blk (w.alloc (.cells (madeCells #[.int .u8 0] n) 5)) w.heap.size (u8s (List.replicate n 0)) 5 := by
  refine Blk.new' rfl ?_
  apply Array.ext'
  rw [toList_madeCells_one]
  simp [u8s]
theorem splice_end {P Q : List Int} {m : Nat} (h : Q.length ≤ m) : splice (P ++ List.replicate m 0) P.length Q = (P ++ Q) ++ List.replicate (m - Q.length) 0 := by
  unfold splice
  rw [List.take_left' rfl, List.drop_append, List.drop_eq_nil_of_le (by omega)]
  simp
theorem join_splice {p : List Int} : splice p 4 (bigI 4 (crI 0 p)) = joinL p := by
  unfold splice joinL
  rw [bigI_length]
theorem pack4 (v : Int) : packL [4] [v] = bigI 4 v := by simp [packL, wd]
theorem NIn.drew {k : IntKind} {w : World} {a : Option Addr} {n : Nat} {zs : List Int} (h : NIn k w a n zs) : NIn k w.drew a n zs := h
theorem u8s_splice (L : List Int) (o : Nat) (zs : List Int) : splice (u8s L) o (u8s zs) = u8s (splice L o zs) := by simp [splice, u8s, List.map_take, List.map_drop]
theorem splice_length {L zs : List Int} {o : Nat} (h : o + zs.length ≤ L.length) : (splice L o zs).length = L.length := by
  simp only [splice, List.length_append, List.length_take, List.length_drop]; omega
theorem copy_src {w : World} {q o : Nat} {a : Option Addr} {n : Nat} {zs : List Int} (h : BIn w a n zs) : 0 < (u8s zs).length → (some ⟨q, o, none⟩ : Option Addr) = some ⟨q, o, none⟩ ∧ ∃ ad, a = some ad ∧ ∀ j v, (u8s zs)[j]? = some v → w.cell? (ad.add j) = some v := by
  intro hp
  refine ⟨rfl, ?_⟩
  obtain ⟨hl, _, _, hc⟩ := h
  rw [u8s_length, hl] at hp
  obtain ⟨b, off, rfl, hcell⟩ := hc.resolve_left (by omega)
  refine ⟨_, rfl, fun j v hj => ?_⟩
  have hjl : j < n := by
    have := (List.getElem?_eq_some_iff.1 hj).1
    rwa [u8s_length, hl] at this
  rw [Addr.add_mid, hcell j hjl, ← hj]
  simp [u8s, List.getD, hl, hjl]
/-- A copy into a row, as a step of a region that draws its order: no other block changes. -/
theorem step_copy_one {P : Program} {ops : Array Oper} {o : Oper} {a : Act} {w : World} {K : Act → World → Prop} {Q : Exit → Act → World → Prop} {E : Prop} (hgd : o.guard = none) (d s : Operand) (dT sT : TypeId)
    (ho : o.op = .call { callee := .builtin .copy, args := #[d, s], argTypes := #[dT, sT] }) (elem : TypeId) (hu : P.underlying dT = some (.slice elem)) (hsz : (P.info? elem).map (·.size) = some 1)
    (dp sp : Option Addr) (dLen dCap sLen sCap : Nat) (hd : a.eval d = .slice dp dLen dCap) (hs : a.eval s = .slice sp sLen sCap)
    (g off : Nat) (cur : List Value) (t : TypeId) (hg : Blk w g cur t) (cs : List Value) (hn : cs.length = Nat.min sLen dLen)
    (hpos : 0 < cs.length → dp = some ⟨g, off, none⟩ ∧ ∃ ad, sp = some ad ∧ ∀ j v, cs[j]? = some v → w.cell? (ad.add j) = some v)
    (hfit : off + cs.length ≤ cur.length) (h1 : ∀ v ∈ cs, v.oneCell' = true)
    (h : ∀ w', Blk w' g (splice cur off cs) t → Below g w w' → (∀ k, k ≠ g → w'.heap[k]? = w.heap[k]?) → w'.heap.size = w.heap.size → K (a.put o.dst (goInt cs.length)) w') :
    if Region.wanted o (yielded ops a.tmps) = true then Oper.wp P o a w K Q else E := by
  have hw : Region.wanted o (yielded ops a.tmps) = true := by simp [Region.wanted, hgd]
  rw [if_pos hw]
  by_cases h0 : cs.length = 0
  · obtain rfl : cs = [] := List.eq_nil_of_length_eq_zero h0
    have hrun := run_copy_none (P := P) w dT sT o.type elem dp sp dLen dCap sLen sCap hu hsz (by simpa using hn.symm)
    unfold Oper.wp
    simp [execOp, ho, resolve, invoke, builtin, hd, hs, hrun, Result.andThen]
    exact h w (by have e : splice cur off ([] : List Value) = cur := (by simp [splice])
                  rw [e]; exact hg) (Below.refl _ _) (fun _ _ => rfl) rfl
  · obtain ⟨rfl, ad, rfl, hsrc⟩ := hpos (by omega)
    have hrun := run_copy_row (P := P) w dT sT o.type elem g off dLen dCap ad sLen sCap cur.toArray t cs hu hsz hg hn hsrc (by simpa using hfit) h1
    unfold Oper.wp
    simp [execOp, ho, resolve, invoke, builtin, hd, hs, hrun, Result.andThen]
    exact h _ (show _ = _ by simpa [splice] using setRow_heap w g _ _ t _ hg) (below_setRow (Below.refl _ _) (Nat.le_refl _) _) (fun k hk => setRow_other w g k _ hk) (by simp [World.setRow])
theorem blk_same {w w' : World} {g : Nat} {L : List Value} {t : TypeId} (h : Blk w g L t) (e : w'.heap[g]? = w.heap[g]?) : Blk w' g L t := by unfold Blk; rw [e]; exact h
theorem cfront_enough (xs : List Int) (k : Nat) : k ≤ (xs.take k).length ↔ k ≤ xs.length := by rw [List.length_take]; omega
theorem cval_take : ∀ (ws : List Int) (xs : List Int) (k : Nat), offL ws ≤ k → valL (xs.take k) ws = valL xs ws
  | [], _, _, _ => rfl
  | x :: ws, xs, k, h => by
    simp only [offL] at h
    simp only [valL]
    rw [List.take_take, Nat.min_eq_left (by omega), List.drop_take, cval_take ws _ _ (by omega)]
theorem ctakeV_take (xs ws : List Int) : takeV (xs.take (offL ws)) ws = takeV xs ws := by
  unfold takeV
  by_cases h : offL ws ≤ xs.length
  · rw [if_pos h, if_pos ((cfront_enough _ _).2 h), cval_take ws xs _ (Nat.le_refl _)]
  · rw [if_neg h, if_neg (fun e => h ((cfront_enough _ _).1 e))]
/-- What is left behind i bytes, as slicing leaves it. -/
def cleftV (a : Option Addr) (n c i : Nat) : Value := .slice (if c = i then a else a.map (·.add i)) (n - i) (c - i)
theorem cown_at {w : World} {base k C : Nat} {A : Option Addr} {L : List Int} (h : w.ownsRow base 24 1 (.slice A k C) k (kInts .u64 L)) (h0 : L ≠ []) : ∃ g, A = some ⟨g, 0, none⟩ ∧ k = L.length ∧ base ≤ g ∧ k ≤ C ∧ ∀ i, i < L.length → w.cell? ⟨g, i, none⟩ = some (.int .u64 (L.getD i 0)) := by
  have hl : L.length = k := by have := h.1; simp [kInts] at this; omega
  have hp : 0 < L.length := List.length_pos_iff.2 h0
  rcases h.2 with ⟨hv, hn⟩ | ⟨g, cap, cur, hv, hb, hg, hc, hcm, hsz, htake⟩
  · omega
  · cases hv
    refine ⟨g, rfl, hl.symm, hb, hc, fun i hi => ?_⟩
    have hcl := h.cells (g := g) rfl i (.int .u64 (L.getD i 0)) (by simp [kInts, List.getD, hi])
    rw [Addr.add_mid, Nat.zero_add] at hcl
    exact hcl
theorem cback_nil {a : Option Addr} {n c i : Nat} (hi : i ≤ n) (hn : a = none → n = 0 ∧ c = 0) : (if c = i then a else a.map (·.add i)) = none → n - i = 0 ∧ c - i = 0 := by
  intro e
  have : a = none := by
    split at e
    · exact e
    · cases a with
      | none => rfl
      | some x => cases e
  have := hn this
  omega
theorem cstep_append_run {ops : Array Oper} {o : Oper} {a : Act} {w : World} {K : Act → World → Prop} {Q : Exit → Act → World → Prop} {E : Prop} (hg : o.guard = none) (s x : Operand) (t t2 : TypeId)
    (hop : o.op = .call { callee := .builtin .append, args := #[s, x], argTypes := #[t, t2] }) (sv xv : Value) (hs : a.eval s = sv) (hx : a.eval x = xv) (v : Value) (w' : World) (hrun : (Builtin.append_ #[t, t2] o.type #[sv, xv]).run Try.prog w = .ok v w') (hK : K (a.put o.dst v) w') :
    if Region.wanted o (yielded ops a.tmps) = true then Oper.wp Try.prog o a w K Q else E := by
  have hw : Region.wanted o (yielded ops a.tmps) = true := by simp [Region.wanted, hg]
  rw [if_pos hw]
  unfold Oper.wp
  simp [execOp, hop, resolve, invoke, builtin, hs, hx, hrun, Result.andThen]
  exact hK
theorem own_full {w : World} {B g n : Nat} {L : List Int} (h : w.ownsRow B 5 1 (.slice (some ⟨g, 0, none⟩) n n) n (u8s L)) : Blk w g (u8s L) 5 := by
  rcases h.2 with ⟨hv, _⟩ | ⟨g', cap, cur, hv, hb, hg, hc, hcm, hsz, htake⟩
  · cases hv
  · cases hv
    unfold Blk
    rw [hg]
    have e : cur.toList = u8s L := by rw [← htake, List.take_of_length_le (by simp [hsz])]
    rw [← e]
theorem u8_not {W : World} {g : Nat} {L : List Int} (h : Blk W g (u8s L) 5) : ∀ j t, W.cell? ⟨g, j, none⟩ ≠ some (.int .u32 t) := by
  intro j t e
  rw [h.cell] at e
  simp only [u8s, List.getElem?_map, Option.map_eq_some_iff] at e
  obtain ⟨z, _, hz⟩ := e
  cases hz
end Go.Proofs.Yteokhkoaieibmaa
