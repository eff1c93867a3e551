/- Texts of this seat, one behind the other: CkBase, CkTake, CkIn, CkSmall. -/
import Derived.Test.YteokhkoaieibmaaJ5
import Derived.Test.YteokhkoaieibmaaJ7
import Derived.BigQuiet
import Derived.BigRegion
import Derived.Laws.ResultCell
import Derived.Deep.RegionLaw
import Derived.Deep.RegionHeld3
import Derived.Defers
import Derived.Recover
/- Things of general use, as rec has them. -/
namespace Go.Proofs.Yteokhkoaieibmaa
open Go.RowKit
set_option linter.unusedVariables false
set_option maxRecDepth 4000

theorem and_ofR {b : Int} (h1 : 64 ≤ b) (h2 : b ≤ 4096) : bits BinOp.and IntKind.i64 b (b - 1) = 0 ↔ b ∈ PowR := and_of h1 h2
theorem nin_lit (t : TypeId) {w : World} {g n : Nat} {L : List Int} {C : Array Value} {fr : Nat × Nat} (hk : w.heap.size = g) (hC : C = (kInts .i64 L).toArray) (hn : L.length = n) (hf : (L.all fun z => (Lit.int .i64 z).wf) = true) (hm : n ≤ 1000) :
    NIn .i64 (w.alloc (.cells C t fr)) (some ⟨g, 0, none⟩) n L := new_nin hk hC hn (List.all_eq_true.1 hf) (by unfold maxLen; omega)
theorem nin_litU (t : TypeId) {w : World} {g n : Nat} {L : List Int} {C : Array Value} {fr : Nat × Nat} (hk : w.heap.size = g) (hC : C = (kInts .u64 L).toArray) (hn : L.length = n) (hf : ∀ z ∈ L, FitsU z) (hm : n ≤ 1000) :
    NIn .u64 (w.alloc (.cells C t fr)) (some ⟨g, 0, none⟩) n L := new_nin hk hC hn (fun z hz => wfU (hf z hz)) (by unfold maxLen; omega)
theorem str_ne {xs ys : List Int} (hx : ∀ z ∈ xs, Fits8 z) (hy : ∀ z ∈ ys, Fits8 z) (h : xs ≠ ys) : strOfNums xs ≠ strOfNums ys := by
  intro e
  apply h
  have e1 : (xs.map fun n => UInt8.ofNat n.toNat) = ys.map fun n => UInt8.ofNat n.toNat := by rw [← strOfNums_data, ← strOfNums_data, e]
  have hl : xs.length = ys.length := by simpa using congrArg List.length e1
  apply List.ext_getElem hl
  intro i h1 h2
  have e2 : (xs.map fun n => UInt8.ofNat n.toNat)[i]'(by simpa using h1) = (ys.map fun n => UInt8.ofNat n.toNat)[i]'(by simpa using h2) := by simp only [e1]
  simp only [List.getElem_map] at e2
  have e3 := congrArg UInt8.toNat e2
  have f1 := hx _ (List.getElem_mem h1)
  have f2 := hy _ (List.getElem_mem h2)
  unfold Fits8 at f1 f2
  simp only [UInt8.toNat_ofNat'] at e3
  omega
theorem str_other {xs ys : List Int} (hx : ∀ z ∈ xs, Fits8 z) (hy : ∀ z ∈ ys, Fits8 z) (h : xs ≠ ys) : ((strOfNums xs).toList == (strOfNums ys).toList) = false := by
  rw [beq_eq_false_iff_ne]
  intro e
  rw [Lib.strOfNums_toList, Lib.strOfNums_toList] at e
  refine str_ne hx hy h ?_
  have e1 : (strOfNums xs).data.toList = (strOfNums ys).data.toList := e
  have e2 : (strOfNums xs).data = (strOfNums ys).data := Array.toList_inj.1 e1
  exact congrArg ByteArray.mk e2
/-- Are lists of bytes alike? -/
theorem equal_of (a : Option Addr) (n c : Nat) (xs : List Int) (b : Option Addr) (m d : Nat) (ys : List Int) (w : World) (hx : BIn w a n xs) (hy : BIn w b m ys) :
    Calls Try.prog 44 #[.slice a n c, .slice b m d] w fun e w' => e = .returned (.bool (decide (xs = ys))) ∧ w' = w := by
  have h1 := str_of w a n c xs hx
  have h2 := str_of w b m d ys hy
  by_cases h : xs = ys
  · subst h
    simp only [decide_true]
    go_enter Try.func44, Try.ntmps44
    go_wp2
    go_ret
    exact ⟨rfl, rfl⟩
  · have h3 := str_other hx.2.2.1 hy.2.2.1 h
    rw [decide_eq_false h]
    clear h hx hy
    go_enter Try.func44, Try.ntmps44
    go_wp2
    go_ret
    exact ⟨rfl, rfl⟩
def pwR (k : Nat) : Int := 64 * 2 ^ k
theorem pwR_at : ∀ k : Fin 7, PowR[k.val]? = some (pwR k.val) ∧ 64 ≤ pwR k.val ∧ pwR k.val ≤ 4096 ∧ pwR (k.val + 1) = 2 * pwR k.val := by decide
theorem pwR_mem {b : Int} : b ∈ PowR ↔ ∃ k, k < 7 ∧ b = pwR k := by
  constructor
  · intro h
    obtain ⟨k, hk⟩ := List.getElem?_of_mem h
    have hl : k < 7 := (List.getElem?_eq_some_iff.1 hk).1
    rw [(pwR_at ⟨k, hl⟩).1] at hk
    exact ⟨k, hl, by simpa using hk.symm⟩
  · rintro ⟨k, hk, rfl⟩
    exact List.mem_of_getElem? (pwR_at ⟨k, hk⟩).1
def diedE (s : ByteArray) : Ending := .panicked [{ v := .iface 9 (.string s), recovered := false }]
theorem cmade_bytes (n : Nat) (w : World) : Blk (w.alloc (.cells (madeCells #[.int .u8 0] n) 5)) w.heap.size (u8s (List.replicate n 0)) 5 := by
  refine Blk.new' rfl ?_
  apply Array.ext'
  rw [toList_madeCells_one]
  simp [u8s]
theorem splice_end {P Q : List Int} {m : Nat} (h : Q.length ≤ m) : splice (P ++ List.replicate m 0) P.length Q = (P ++ Q) ++ List.replicate (m - Q.length) 0 := by
  unfold splice
  rw [List.take_left' rfl, List.drop_append, List.drop_eq_nil_of_le (by omega)]
  simp
theorem join_splice {p : List Int} : splice p 4 (bigI 4 (crI 0 p)) = joinL p := by
  unfold splice joinL
  rw [bigI_length]
theorem pack4 (v : Int) : packL [4] [v] = bigI 4 v := by simp [packL, wd]
theorem NIn.drew {k : IntKind} {w : World} {a : Option Addr} {n : Nat} {zs : List Int} (h : NIn k w a n zs) : NIn k w.drew a n zs := h
theorem u8s_splice (L : List Int) (o : Nat) (zs : List Int) : splice (u8s L) o (u8s zs) = u8s (splice L o zs) := by simp [splice, u8s, List.map_take, List.map_drop]
theorem splice_length {L zs : List Int} {o : Nat} (h : o + zs.length ≤ L.length) : (splice L o zs).length = L.length := by
  simp only [splice, List.length_append, List.length_take, List.length_drop]; omega
theorem copy_src {w : World} {q o : Nat} {a : Option Addr} {n : Nat} {zs : List Int} (h : BIn w a n zs) : 0 < (u8s zs).length → (some ⟨q, o, none⟩ : Option Addr) = some ⟨q, o, none⟩ ∧ ∃ ad, a = some ad ∧ ∀ j v, (u8s zs)[j]? = some v → w.cell? (ad.add j) = some v := by
  intro hp
  refine ⟨rfl, ?_⟩
  obtain ⟨hl, _, _, hc⟩ := h
  rw [u8s_length, hl] at hp
  obtain ⟨b, off, rfl, hcell⟩ := hc.resolve_left (by omega)
  refine ⟨_, rfl, fun j v hj => ?_⟩
  have hjl : j < n := by
    have := (List.getElem?_eq_some_iff.1 hj).1
    rwa [u8s_length, hl] at this
  rw [Addr.add_mid, hcell j hjl, ← hj]
  simp [u8s, List.getD, hl, hjl]
/-- A copy into a row, as a step of a region that draws its order: no other block changes. -/
theorem step_copy_one {P : Program} {ops : Array Oper} {o : Oper} {a : Act} {w : World} {K : Act → World → Prop} {Q : Exit → Act → World → Prop} {E : Prop} (hgd : o.guard = none) (d s : Operand) (dT sT : TypeId)
    (ho : o.op = .call { callee := .builtin .copy, args := #[d, s], argTypes := #[dT, sT] }) (elem : TypeId) (hu : P.underlying dT = some (.slice elem)) (hsz : (P.info? elem).map (·.size) = some 1)
    (dp sp : Option Addr) (dLen dCap sLen sCap : Nat) (hd : a.eval d = .slice dp dLen dCap) (hs : a.eval s = .slice sp sLen sCap)
    (g off : Nat) (cur : List Value) (t : TypeId) (hg : Blk w g cur t) (cs : List Value) (hn : cs.length = Nat.min sLen dLen)
    (hpos : 0 < cs.length → dp = some ⟨g, off, none⟩ ∧ ∃ ad, sp = some ad ∧ ∀ j v, cs[j]? = some v → w.cell? (ad.add j) = some v)
    (hfit : off + cs.length ≤ cur.length) (h1 : ∀ v ∈ cs, v.oneCell' = true)
    (h : ∀ w', Blk w' g (splice cur off cs) t → Below g w w' → (∀ k, k ≠ g → w'.heap[k]? = w.heap[k]?) → w'.heap.size = w.heap.size → K (a.put o.dst (goInt cs.length)) w') :
    if Region.wanted o (yielded ops a.tmps) = true then Oper.wp P o a w K Q else E := by
  have hw : Region.wanted o (yielded ops a.tmps) = true := by simp [Region.wanted, hgd]
  rw [if_pos hw]
  by_cases h0 : cs.length = 0
  · obtain rfl : cs = [] := List.eq_nil_of_length_eq_zero h0
    have hrun := run_copy_none (P := P) w dT sT o.type elem dp sp dLen dCap sLen sCap hu hsz (by simpa using hn.symm)
    unfold Oper.wp
    simp [execOp, ho, resolve, invoke, builtin, hd, hs, hrun, Result.andThen]
    exact h w (by have e : splice cur off ([] : List Value) = cur := (by simp [splice])
                  rw [e]; exact hg) (Below.refl _ _) (fun _ _ => rfl) rfl
  · obtain ⟨rfl, ad, rfl, hsrc⟩ := hpos (by omega)
    have hrun := run_copy_row (P := P) w dT sT o.type elem g off dLen dCap ad sLen sCap cur.toArray t cs hu hsz hg hn hsrc (by simpa using hfit) h1
    unfold Oper.wp
    simp [execOp, ho, resolve, invoke, builtin, hd, hs, hrun, Result.andThen]
    exact h _ (show _ = _ by simpa [splice] using setRow_heap w g _ _ t _ hg) (below_setRow (Below.refl _ _) (Nat.le_refl _) _) (fun k hk => setRow_other w g k _ hk) (by simp [World.setRow])
theorem blk_same {w w' : World} {g : Nat} {L : List Value} {t : TypeId} (h : Blk w g L t) (e : w'.heap[g]? = w.heap[g]?) : Blk w' g L t := by unfold Blk; rw [e]; exact h
theorem cfront_enough (xs : List Int) (k : Nat) : k ≤ (xs.take k).length ↔ k ≤ xs.length := by rw [List.length_take]; omega
theorem cval_take : ∀ (ws : List Int) (xs : List Int) (k : Nat), offL ws ≤ k → valL (xs.take k) ws = valL xs ws
  | [], _, _, _ => rfl
  | x :: ws, xs, k, h => by
    simp only [offL] at h
    simp only [valL]
    rw [List.take_take, Nat.min_eq_left (by omega), List.drop_take, cval_take ws _ _ (by omega)]
theorem ctakeV_take (xs ws : List Int) : takeV (xs.take (offL ws)) ws = takeV xs ws := by
  unfold takeV
  by_cases h : offL ws ≤ xs.length
  · rw [if_pos h, if_pos ((cfront_enough _ _).2 h), cval_take ws xs _ (Nat.le_refl _)]
  · rw [if_neg h, if_neg (fun e => h ((cfront_enough _ _).1 e))]
/-- What is left behind i bytes, as slicing leaves it. -/
def cleftV (a : Option Addr) (n c i : Nat) : Value := .slice (if c = i then a else a.map (·.add i)) (n - i) (c - i)
theorem cown_at {w : World} {base k C : Nat} {A : Option Addr} {L : List Int} (h : w.ownsRow base 24 1 (.slice A k C) k (kInts .u64 L)) (h0 : L ≠ []) : ∃ g, A = some ⟨g, 0, none⟩ ∧ k = L.length ∧ base ≤ g ∧ k ≤ C ∧ ∀ i, i < L.length → w.cell? ⟨g, i, none⟩ = some (.int .u64 (L.getD i 0)) := by
  have hl : L.length = k := by have := h.1; simp [kInts] at this; omega
  have hp : 0 < L.length := List.length_pos_iff.2 h0
  rcases h.2 with ⟨hv, hn⟩ | ⟨g, cap, cur, hv, hb, hg, hc, hcm, hsz, htake⟩
  · omega
  · cases hv
    refine ⟨g, rfl, hl.symm, hb, hc, fun i hi => ?_⟩
    have hcl := h.cells (g := g) rfl i (.int .u64 (L.getD i 0)) (by simp [kInts, List.getD, hi])
    rw [Addr.add_mid, Nat.zero_add] at hcl
    exact hcl
theorem cback_nil {a : Option Addr} {n c i : Nat} (hi : i ≤ n) (hn : a = none → n = 0 ∧ c = 0) : (if c = i then a else a.map (·.add i)) = none → n - i = 0 ∧ c - i = 0 := by
  intro e
  have : a = none := by
    split at e
    · exact e
    · cases a with
      | none => rfl
      | some x => cases e
  have := hn this
  omega
theorem cstep_append_run {ops : Array Oper} {o : Oper} {a : Act} {w : World} {K : Act → World → Prop} {Q : Exit → Act → World → Prop} {E : Prop} (hg : o.guard = none) (s x : Operand) (t t2 : TypeId)
    (hop : o.op = .call { callee := .builtin .append, args := #[s, x], argTypes := #[t, t2] }) (sv xv : Value) (hs : a.eval s = sv) (hx : a.eval x = xv) (v : Value) (w' : World) (hrun : (Builtin.append_ #[t, t2] o.type #[sv, xv]).run Try.prog w = .ok v w') (hK : K (a.put o.dst v) w') :
    if Region.wanted o (yielded ops a.tmps) = true then Oper.wp Try.prog o a w K Q else E := by
  have hw : Region.wanted o (yielded ops a.tmps) = true := by simp [Region.wanted, hg]
  rw [if_pos hw]
  unfold Oper.wp
  simp [execOp, hop, resolve, invoke, builtin, hs, hx, hrun, Result.andThen]
  exact hK
theorem own_full {w : World} {B g n : Nat} {L : List Int} (h : w.ownsRow B 5 1 (.slice (some ⟨g, 0, none⟩) n n) n (u8s L)) : Blk w g (u8s L) 5 := by
  rcases h.2 with ⟨hv, _⟩ | ⟨g', cap, cur, hv, hb, hg, hc, hcm, hsz, htake⟩
  · cases hv
  · cases hv
    unfold Blk
    rw [hg]
    have e : cur.toList = u8s L := by rw [← htake, List.take_of_length_le (by simp [hsz])]
    rw [← e]
theorem u8_not {W : World} {g : Nat} {L : List Int} (h : Blk W g (u8s L) 5) : ∀ j t, W.cell? ⟨g, j, none⟩ ≠ some (.int .u32 t) := by
  intro j t e
  rw [h.cell] at e
  simp only [u8s, List.getElem?_map, Option.map_eq_some_iff] at e
  obtain ⟨z, _, hz⟩ := e
  cases hz
end Go.Proofs.Yteokhkoaieibmaa

/- What one call of ckpt's reader's take does. -/
namespace Go.Proofs.Yteokhkoaieibmaa
open Go.RowKit
set_option linter.unusedVariables false
set_option maxRecDepth 4000

def noCk : ByteArray := ⟨#[99, 107, 112, 116, 58, 32, 116, 104, 101, 32, 98, 108, 111, 99, 107, 115, 32, 97, 114, 101, 32, 110, 111, 32, 99, 104, 101, 99, 107, 112, 111, 105, 110, 116]⟩
def noBk : ByteArray := ⟨#[99, 107, 112, 116, 58, 32, 116, 104, 101, 32, 115, 116, 97, 116, 101, 32, 104, 97, 115, 32, 110, 111, 32, 98, 108, 111, 99, 107, 115]⟩
def CTook (g : Nat) (a : Option Addr) (n c : Nat) (xs ws : List Int) (w : World) (e : Ending) (w' : World) : Prop :=
  (offL ws ≤ n ∧ ∃ A k C w2, e = .returned (.slice A k C) ∧ Below w.heap.size w w2 ∧ w' = w2.setCell ⟨g, 0, none⟩ (cleftV a n c (offL ws)) ∧ w2.ownsRow w.heap.size 24 1 (.slice A k C) k (kInts .u64 (valL xs ws))) ∨
  (n < offL ws ∧ e = diedE noCk ∧ Below w.heap.size w w')
set_option maxHeartbeats 1000000 in
theorem ctake_of (g : Nat) (a : Option Addr) (n c o : Nat) (xs : List Int) (b : Option Addr) (m d : Nat) (ws : List Int) (w : World) (ho : o = offL ws) (hg : w.cell? ⟨g, 0, none⟩ = some (.slice a n c)) (hz : w.frozen? ⟨g, 0, none⟩ = false) (hx : BIn w a n xs) (hnil : a = none → n = 0 ∧ c = 0) (hnc : n ≤ c) (hy : NIn .i64 w b m ws) (hn : n ≤ 100000) (hm : m ≤ 1000) :
    Calls Try.prog 71 #[.pointer (some ⟨g, 0, none⟩), .int .i64 (o : Nat), .slice b m d] w (CTook g a n c xs ws w) := by
  have hob : o ≤ 8000 := by have := offL_le ws; have := hy.1; omega
  have H : Hid (BIn w a n xs ∧ NIn .i64 w b m ws ∧ (a = none → n = 0 ∧ c = 0) ∧ n ≤ c ∧ w.cell? ⟨g, 0, none⟩ = some (.slice a n c) ∧ w.frozen? ⟨g, 0, none⟩ = false ∧ o = offL ws) := ⟨hx, hy, hnil, hnc, hg, hz, ho⟩
  clear hx hy hnil hnc hg hz ho
  obtain ⟨M, hM⟩ : ∃ M : Nat, M = min o n := ⟨_, rfl⟩
  have hM' : (if n < o then (n : Int) else o) = M := by rw [hM]; split <;> omega
  have hMc : M ≤ c := by have := H.out.2.2.2.1; omega
  have hsl := fun w => slice_front Try.underlying39 Try.one_bytes a n c M hMc w
  have hMn : M ≤ n := by omega
  have eX : xs.take M = xs.take (offL ws) := by
    rw [← H.out.2.2.2.2.2.2]
    by_cases h : o ≤ n
    · rw [hM, Nat.min_eq_left h]
    · rw [hM, Nat.min_eq_right (by omega), List.take_of_length_le (by rw [H.out.1.1]; exact Nat.le_refl _), List.take_of_length_le (by rw [H.out.1.1]; omega)]
  have HM : Hid (xs.take M = xs.take (offL ws) ∧ M ≤ n ∧ M ≤ c) := ⟨eX, hMn, hMc⟩
  clear hM eX hMc hMn
  have c0 := H.out.2.2.2.2.1
  have cT := take_of a M c (xs.take M) b m d ws w.drew ((H.out.1.n.front M HM.out.2.1).b) (fun e => by have := H.out.2.2.1 e; have := HM.out; omega) HM.out.2.2 H.out.2.1 (by have := HM.out; omega) (by omega)
  have ed : decide (offL ws ≤ (xs.take (offL ws)).length) = decide (o ≤ n) := decide_eq_decide.2 (by rw [cfront_enough, ← H.out.2.2.2.2.2.2, H.out.1.1])
  rw [HM.out.1, ctakeV_take, ed] at cT
  clear ed
  go_enter Try.func71, Try.ntmps71
  go_upto_region 1 with fail
  go_region_held3 (fun w' => w'.cell? ⟨g, 0, none⟩ = some (.slice a n c)) (first | exact c0 | exact c2)
    (first | (go_simp; go_at_call 84; refine cT.mono ?_; rintro e w2 ⟨A, k, C, R, r, D, rfl, ow, -, bl⟩; have bl' : Below w.heap.size w w2 := (Below.refl _ _).drew.trans bl; have c2 : w2.cell? ⟨g, 0, none⟩ = some (.slice a n c) := by (rw [bl'.cell (old_block c0)]; exact c0)))
  have f2 : w2.frozen? ⟨g, 0, none⟩ = false := by rw [bl'.frozen (old_block c0)]; exact H.out.2.2.2.2.2.1
  have HE : Hid (w2.ownsRow w.heap.size 24 1 (.slice A k C) k (kInts .u64 (takeV xs ws)) ∧ Below w.heap.size w w2) := ⟨ow, bl'⟩
  clear ow bl cT bl' c0 hM' hsl
  by_cases hen : o ≤ n
  · rw [decide_eq_true hen]
    have hen' : (o : Int) ≤ n := by omega
    obtain ⟨A', eA⟩ : ∃ A', .slice A' (n - o) (c - o) = cleftV a n c o := ⟨_, rfl⟩
    have hb := fun w => slice_back Try.underlying39 Try.one_bytes a n c o hen w
    have hb' : ∀ w : World, (Instr.slice 39 (.slice a n c) (some (.int .i64 (o : Int))) none none).run Try.prog w = .ok (.slice A' (n - o) (c - o)) w := fun w => by rw [hb w, eA]; rfl
    have HA : Hid (.slice A' (n - o) (c - o) = cleftV a n c o) := eA
    clear eA hb
    go_wp2
    go_ret
    refine .inl ⟨by rw [← H.out.2.2.2.2.2.2]; exact hen, A, k, C, w2, rfl, HE.out.2, by rw [← H.out.2.2.2.2.2.2, ← HA.out], ?_⟩
    have := HE.out.1
    rwa [show takeV xs ws = valL xs ws by unfold takeV; rw [if_pos (by rw [← H.out.2.2.2.2.2.2, H.out.1.1]; exact hen)]] at this
  · rw [decide_eq_false hen]
    go_wp2
    refine ⟨rfl, .inr ⟨by rw [← H.out.2.2.2.2.2.2]; omega, rfl, HE.out.2⟩⟩
end Go.Proofs.Yteokhkoaieibmaa

/- Places in memory; the room of a block, widths, is a place one of the log's, does it stand above another one. -/
namespace Go.Proofs.Yteokhkoaieibmaa
open Go.RowKit
set_option linter.unusedVariables false
set_option maxRecDepth 4000

def plL (p : Pl) : List Value := [.int .u32 p.1.1, .int .u64 p.1.2, .int .i64 p.2.1, .int .i64 p.2.2]
def KIn (w : World) (a : Option Addr) (n : Nat) (ps : List Pl) : Prop :=
  ps.length = n ∧ n ≤ maxLen ∧ (∀ p ∈ ps, FitsP p) ∧ (n = 0 ∨ ∃ b off, a = some ⟨b, off, none⟩ ∧ ∀ (i : Nat) (x : Pl), ps[i]? = some x → ∀ (j : Nat) (v : Value), (plL x)[j]? = some v → w.cell? ⟨b, off + i * 4 + j, none⟩ = some v)
theorem KIn.below {w w' : World} {a : Option Addr} {n : Nat} {ps : List Pl} (h : KIn w a n ps) (hb : Below w.heap.size w w') : KIn w' a n ps := by
  obtain ⟨h1, h2, h3, h4⟩ := h
  refine ⟨h1, h2, h3, ?_⟩
  rcases h4 with h4 | ⟨b, off, ha, hc⟩
  · exact .inl h4
  · exact .inr ⟨b, off, ha, fun i x hx j v hv => by rw [hb.cell (old_block (hc i x hx j v hv))]; exact hc i x hx j v hv⟩
theorem KIn.alloc {w : World} {a : Option Addr} {n : Nat} {ps : List Pl} (h : KIn w a n ps) (o : Obj) : KIn (w.alloc o) a n ps := h.below ((Below.refl _ _).alloc (Nat.le_refl _) o)
theorem KIn.drew {w : World} {a : Option Addr} {n : Nat} {ps : List Pl} (h : KIn w a n ps) : KIn w.drew a n ps := h
theorem kin_none (w : World) : KIn w none 0 [] := ⟨rfl, Nat.zero_le _, by simp, .inl rfl⟩
/-- Places stay where no cell of theirs is written. -/
theorem KIn.cells {w w' : World} {a : Option Addr} {n : Nat} {ps : List Pl} (h : KIn w a n ps) (hc : ∀ b o v, a.map (·.block) = some b → w.cell? ⟨b, o, none⟩ = some v → w'.cell? ⟨b, o, none⟩ = some v) : KIn w' a n ps := by
  obtain ⟨h1, h2, h3, h4⟩ := h
  refine ⟨h1, h2, h3, ?_⟩
  rcases h4 with h4 | ⟨b, off, ha, hh⟩
  · exact .inl h4
  · exact .inr ⟨b, off, ha, fun i x hx j v hv => hc b _ v (by rw [ha]; rfl) (hh i x hx j v hv)⟩
theorem KIn.out {O : Nat → Prop} {w w' : World} {a : Option Addr} {n : Nat} {ps : List Pl} (h : KIn w a n ps) (ho : Out O w w') (hO : ∀ b, a.map (·.block) = some b → ¬ O b) : KIn w' a n ps :=
  h.cells (fun b o v hb hv => ho.cell hv (hO b hb))
theorem KIn.part {w : World} {b off n : Nat} {ps : List Pl} (h : KIn w (some ⟨b, off, none⟩) n ps) (i m : Nat) (hik : i + m ≤ n) : KIn w (some ⟨b, off + i * 4, none⟩) m ((ps.drop i).take m) := by
  obtain ⟨h1, h2, h3, h4⟩ := h
  refine ⟨by rw [List.length_take, List.length_drop]; omega, by omega, fun p hp => h3 p (List.mem_of_mem_drop (List.mem_of_mem_take hp)), ?_⟩
  by_cases h0 : m = 0
  · exact .inl h0
  · obtain ⟨b', off', e, hc⟩ := h4.resolve_left (by omega)
    cases e
    refine .inr ⟨_, _, rfl, fun k x hx j v hv => ?_⟩
    have hk : k < m := by have := (List.getElem?_eq_some_iff.1 hx).1; rw [List.length_take] at this; omega
    rw [List.getElem?_take_of_lt hk, List.getElem?_drop] at hx
    have := hc (i + k) x hx j v hv
    rw [show off + (i + k) * 4 + j = off + i * 4 + k * 4 + j by omega] at this
    exact this
theorem KIn.front {w : World} {a : Option Addr} {n : Nat} {ps : List Pl} (h : KIn w a n ps) (m : Nat) (hm : m ≤ n) : KIn w a m (ps.take m) := by
  by_cases h0 : m = 0
  · subst h0
    exact ⟨by simp, Nat.zero_le _, by simp, .inl rfl⟩
  · obtain ⟨b, off, rfl, _⟩ := h.2.2.2.resolve_left (by omega)
    simpa using h.part 0 m (by omega)
/-- What slicing leaves behind i places. -/
def kleft (a : Option Addr) (c i : Nat) : Option Addr := if c = i then a else a.map (·.add (i * 4))
theorem KIn.back {w : World} {a : Option Addr} {n c : Nat} {ps : List Pl} (h : KIn w a n ps) (i : Nat) (hi : i ≤ n) (hc : n ≤ c) : KIn w (kleft a c i) (n - i) (ps.drop i) := by
  by_cases h0 : n - i = 0
  · exact ⟨by rw [List.length_drop, h.1], by omega, fun p hp => h.2.2.1 p (List.mem_of_mem_drop hp), .inl h0⟩
  · obtain ⟨b, off, rfl, _⟩ := h.2.2.2.resolve_left (by omega)
    unfold kleft
    rw [if_neg (by have := h.2.1; omega)]
    have := h.part i (n - i) (by omega)
    rw [List.take_of_length_le (by rw [List.length_drop, h.1]; exact Nat.le_refl _)] at this
    simpa [Addr.add_mid] using this
theorem kleft_nil {a : Option Addr} {c i : Nat} (h : kleft a c i = none) : a = none := by
  unfold kleft at h
  split at h
  · exact h
  · cases a with
    | none => rfl
    | some x => cases h
theorem Try.four_places : ∀ w : World, (sizeOf (Try.prog.elem 25)).run Try.prog w = .ok 4 w := fun _ => by kernel_rfl
theorem kslice_front (a : Option Addr) (n c k : Nat) (hk : k ≤ c) (w : World) :
    (Instr.slice 25 (.slice a n c) none (some (.int .i64 (k : Int))) none).run Try.prog w = .ok (.slice a k c) w := by
  rw [run_slice_h (P := Try.prog) w 25 a n c Try.underlying25 .i64 k (by omega) (by omega), Try.four_places w]
  simp only [Result.andThen, Int.toNat_natCast]
  unfold sliced
  cases a with
  | none => simp
  | some x => simp [Addr.add]
theorem kslice_back (a : Option Addr) (n c k : Nat) (hk : k ≤ n) (w : World) :
    (Instr.slice 25 (.slice a n c) (some (.int .i64 (k : Int))) none none).run Try.prog w = .ok (.slice (kleft a c k) (n - k) (c - k)) w := by
  rw [run_slice_l (P := Try.prog) w 25 a n c Try.underlying25 .i64 k (by omega) (by omega), Try.four_places w]
  simp only [Result.andThen, Int.toNat_natCast]
  rfl
/-! ### Places in a row of the call's own -/
def plC (xs : List Pl) : List Value := xs.flatMap plL
theorem plC_length (xs : List Pl) : (plC xs).length = xs.length * 4 := by
  unfold plC
  induction xs with
  | nil => rfl
  | cons x r ih => rw [List.flatMap_cons, List.length_append, ih, List.length_cons]; simp [plL]; omega
theorem plC_snoc (xs : List Pl) (x : Pl) : plC xs ++ plL x = plC (xs ++ [x]) := by simp [plC]
theorem plC_at : ∀ (xs : List Pl) (i : Nat) (x : Pl) (j : Nat), xs[i]? = some x → j < 4 → (plC xs)[i * 4 + j]? = (plL x)[j]?
  | [], i, x, j, h, _ => by simp at h
  | y :: r, 0, x, j, h, hj => by
    have : y = x := by simpa using h
    subst this
    rw [plC, List.flatMap_cons, Nat.zero_mul, Nat.zero_add, List.getElem?_append_left (by simp [plL]; omega)]
  | y :: r, i + 1, x, j, h, hj => by
    have h' : r[i]? = some x := by simpa using h
    rw [plC, List.flatMap_cons, List.getElem?_append_right (by simp [plL]; omega)]
    have : (i + 1) * 4 + j - (plL y).length = i * 4 + j := by simp [plL]; omega
    rw [this]
    exact plC_at r i x j h' hj
theorem plL_one (x : Pl) : ∀ v ∈ plL x, v.oneCell' = true := by
  intro v hv; simp only [plL, List.mem_cons, List.not_mem_nil, or_false] at hv; rcases hv with rfl | rfl | rfl | rfl <;> rfl
theorem own_kin {W : World} {base : Nat} {a : Option Addr} {n c : Nat} {xs : List Pl} (h : W.ownsRow base 83 4 (.slice a n c) n (plC xs)) (hm : n ≤ maxLen) (hf : ∀ x ∈ xs, FitsP x) : KIn W a n xs := by
  have hl : xs.length = n := by have := h.1; rw [plC_length] at this; omega
  refine ⟨hl, hm, hf, ?_⟩
  rcases h.2 with ⟨hv, hn⟩ | ⟨g, cap, cur, hv, hb, hg, hc, hcm, hsz, htake⟩
  · exact .inl hn
  · cases hv
    refine .inr ⟨g, 0, rfl, fun i x hx j v hv => ?_⟩
    have hj : j < 4 := (List.getElem?_eq_some_iff.1 hv).1
    have hcl := h.cells (g := g) rfl (i * 4 + j) v (by rw [plC_at xs i x j hx hj]; exact hv)
    rw [Addr.add_mid] at hcl
    rw [Nat.add_assoc]
    exact hcl
theorem Try.zero_place : (Try.prog.info? 83).map (fun i => (i.zero, i.size, i.bytes)) = some (some (.agg #[.int .u32 0, .int .u64 0, .int .i64 0, .int .i64 0]), 4, 32) := by kernel_rfl
theorem app_place {W : World} {base : Nat} {a : Option Addr} {n c : Nat} {xs : List Pl} (h : W.ownsRow base 83 4 (.slice a n c) n (plC xs)) (x : Pl) (hle : n + 1 ≤ 10000000) (hb : base ≤ W.heap.size) :
    ∃ a' c' w', (Builtin.append_ #[25, 25] 25 #[.slice a n c, .slice (some ⟨W.heap.size, 0, none⟩) 1 1]).run Try.prog (W.alloc (.cells #[.int .u32 x.1.1, .int .u64 x.1.2, .int .i64 x.2.1, .int .i64 x.2.2] 83)) = .ok (.slice a' (n + 1) c') w' ∧ w'.ownsRow base 83 4 (.slice a' (n + 1) c') (n + 1) (plC (xs ++ [x])) ∧ Below base W w' ∧ (W.alloc (.cells #[.int .u32 x.1.1, .int .u64 x.1.2, .int .i64 x.2.1, .int .i64 x.2.2] 83)).grownBy w' (Value.ownBlock (.slice a n c)) := by
  obtain ⟨i0, hi, hz0, hz1, hz2⟩ := info_parts Try.zero_place
  obtain ⟨v', w', hrun, hown', hgrow, _⟩ := run_append_own (P := Try.prog) (W.alloc (.cells (plL x).toArray 83)) base 25 25 83 i0 _ 4 32 Try.underlying25 hi hz0 hz1 hz2 rfl (by decide) _ n (plC xs) (h.alloc _) ⟨W.heap.size, 0, none⟩ 1 1 (plL x) rfl (by
    intro j u hj
    rw [Addr.add_mid, Nat.zero_add, World.cell?_alloc_mark]
    simpa using hj) (plL_one x) (by unfold maxLen; omega) (by omega) (by simp; omega)
  rw [plC_snoc] at hown'
  obtain ⟨a', c', rfl⟩ : ∃ a' c', v' = .slice a' (n + 1) c' := by
    rcases hown'.2 with ⟨hv, hn⟩ | ⟨g, cap, cur, hv, _⟩
    · omega
    · exact ⟨_, _, hv⟩
  exact ⟨a', c', w', hrun, hown', ((Below.refl base W).alloc hb _).grown hgrow (by simp; omega) (fun k hk => (h.lt k hk).1), hgrow⟩

/-! ### Small functions -/
theorem roomK_none {b : Int} (h : ¬ b ∈ PowR) : roomK b = 0 := by unfold roomK; rw [if_neg h]
theorem khead_of (w : World) : Calls Try.prog 67 #[] w fun e w' => e = .returned (.slice (some ⟨w.heap.size, 0, none⟩) 6 6) ∧ w' = w.alloc (.cells #[.int .i64 4, .int .i64 4, .int .i64 4, .int .i64 4, .int .i64 8, .int .i64 2] 3) := by
  go_enter Try.func67, Try.ntmps67
  go_wp2
  go_ret
  exact ⟨rfl, rfl⟩
theorem kplaceW_of (w : World) : Calls Try.prog 73 #[] w fun e w' => e = .returned (.slice (some ⟨w.heap.size, 0, none⟩) 4 4) ∧ w' = w.alloc (.cells #[.int .i64 4, .int .i64 8, .int .i64 2, .int .i64 2] 3) := by
  go_enter Try.func73, Try.ntmps73
  go_wp2
  go_ret
  exact ⟨rfl, rfl⟩
theorem nin_hk {w : World} {g : Nat} (h : w.heap.size = g) : NIn .i64 (w.alloc (.cells #[.int .i64 4, .int .i64 4, .int .i64 4, .int .i64 4, .int .i64 8, .int .i64 2] 3)) (some ⟨g, 0, none⟩) 6 hkW := nin_lit 3 h rfl rfl rfl (by omega)
theorem nin_pl {w : World} {g : Nat} (h : w.heap.size = g) : NIn .i64 (w.alloc (.cells #[.int .i64 4, .int .i64 8, .int .i64 2, .int .i64 2] 3)) (some ⟨g, 0, none⟩) 4 plW := nin_lit 3 h rfl rfl rfl (by omega)
theorem hkV_fits {i m s n : Int} (hi : FitsU i) (hm : FitsU m) (hs : FitsU s) (hn : FitsU n) : ∀ z ∈ hkV i m s n, FitsU z := by
  intro z hz
  simp only [hkV, List.mem_cons, List.not_mem_nil, or_false] at hz
  rcases hz with rfl | rfl | rfl | rfl | rfl | rfl
  · unfold FitsU; omega
  · unfold FitsU; omega
  · exact hi
  · exact hm
  · exact hs
  · exact hn
theorem lit_hk {i m s n : Int} (hi : FitsU i) (hm : FitsU m) (hs : FitsU s) (hn : FitsU n) : ∀ (X : World) (g : Nat), X.heap.size = g → NIn .u64 (X.alloc (.cells #[.int .u64 1129009236, .int .u64 0, .int .u64 i, .int .u64 m, .int .u64 s, .int .u64 n] 24)) (some ⟨g, 0, none⟩) 6 (hkV i m s n) :=
  fun X g e => nin_litU 24 e rfl rfl (hkV_fits hi hm hs hn) (by omega)
theorem plV_fits {x : Pl} (h : Fit2 x) : ∀ z ∈ plV x, FitsU z := by
  obtain ⟨⟨h1, h2⟩, h3, h4⟩ := h
  intro z hz
  unfold Fits32 at h1
  unfold Fits16 at h3 h4
  simp only [plV, List.mem_cons, List.not_mem_nil, or_false] at hz
  rcases hz with rfl | rfl | rfl | rfl
  · unfold FitsU; omega
  · exact h2
  · unfold FitsU; omega
  · unfold FitsU; omega
theorem lit_pl {x : Pl} (h : Fit2 x) : ∀ (X : World) (g : Nat), X.heap.size = g → NIn .u64 (X.alloc (.cells #[.int .u64 x.1.1, .int .u64 x.1.2, .int .u64 x.2.1, .int .u64 x.2.2] 24)) (some ⟨g, 0, none⟩) 4 (plV x) :=
  fun X g e => nin_litU 24 e rfl rfl (plV_fits h) (by omega)
set_option maxHeartbeats 1000000 in
theorem kroom_of (b : Int) (w : World) : Calls Try.prog 13 #[.int .i64 b] w fun e w' => e = .returned (.int .i64 (roomK b)) ∧ w' = w := by
  obtain ⟨R, hR⟩ : ∃ R, R = roomK b := ⟨_, rfl⟩
  rw [← hR]
  by_cases h1 : b < 64
  · have hf : R = 0 := by rw [hR]; exact roomK_none (fun h => by have := pow_bounds h; omega)
    clear hR
    subst hf
    go_enter Try.func13, Try.ntmps13
    go_wp2
    go_ret
    exact ⟨rfl, rfl⟩
  · have h1' : 64 ≤ b := by omega
    by_cases h2 : 4096 < b
    · have hf : R = 0 := by rw [hR]; exact roomK_none (fun h => by have := pow_bounds h; omega)
      clear hR
      subst hf
      clear h1
      go_enter Try.func13, Try.ntmps13
      go_wp2
      go_ret
      exact ⟨rfl, rfl⟩
    · have h2' : b ≤ 4096 := by omega
      clear h1 h2
      have hw : IntKind.i64.wrap (b - 1) = b - 1 := by rw [IntKind.wrap_i64]; omega
      have hw2 : IntKind.i64.wrap (b - 26) = b - 26 := by rw [IntKind.wrap_i64]; omega
      have hw3 : IntKind.i64.wrap (b - 26 - 1) = b - 26 - 1 := by rw [IntKind.wrap_i64]; omega
      by_cases hp : b ∈ PowR
      · have hand := (and_ofR h1' h2').2 hp
        have hf : R = (b - 26 - 1) / 16 := by rw [hR]; unfold roomK; rw [if_pos hp]; congr 1; omega
        clear hR hp
        subst hf
        go_enter Try.func13, Try.ntmps13
        go_wp2
        go_ret
        exact ⟨rfl, rfl⟩
      · have hand : (bits BinOp.and IntKind.i64 b (b - 1) != 0) = true := by simp; exact fun h => hp ((and_ofR h1' h2').1 h)
        have hf : R = 0 := by rw [hR]; exact roomK_none hp
        clear hR hp
        subst hf
        go_enter Try.func13, Try.ntmps13
        go_wp2
        go_ret
        exact ⟨rfl, rfl⟩
end Go.Proofs.Yteokhkoaieibmaa

/- What one call of ckpt's inLog, rises and place does. -/
namespace Go.Proofs.Yteokhkoaieibmaa
open Go.RowKit
set_option linter.unusedVariables false
set_option maxRecDepth 4000

set_option maxHeartbeats 1000000 in
theorem kinLog_of (s : Sh) (z b : Int) (w : World) : Calls Try.prog 63 #[.agg (shL s).toArray, .agg #[.int .i64 z, .int .i64 b]] w fun e w' => e = .returned (.bool (decide (2 ≤ z ∧ z < s.z ∧ 0 ≤ b ∧ b < s.zb))) ∧ Below w.heap.size w w' := by
  obtain ⟨sz, szb, sb, sr⟩ := s
  dsimp only
  obtain ⟨B, hB⟩ : ∃ B, B = decide (2 ≤ z ∧ z < sz ∧ 0 ≤ b ∧ b < szb) := ⟨_, rfl⟩
  rw [← hB]
  have bw : Hid (∀ o o', Below w.heap.size w ((w.alloc o).alloc o')) := fun o o' => ((Below.refl _ _).alloc (Nat.le_refl _) o).alloc (by simp) o'
  simp only [shL]
  by_cases h1 : 2 ≤ z
  · by_cases h2 : z < sz
    · by_cases h3 : 0 ≤ b
      · have hf : B = decide (b < szb) := by rw [hB]; simp [h1, h2, h3]
        clear hB
        subst hf
        go_enter Try.func63, Try.ntmps63
        go_wp2
        go_ret
        exact ⟨rfl, bw.out _ _⟩
      · have hf : B = false := by rw [hB]; simp [h3]
        clear hB
        subst hf
        have h3' : b < 0 := by omega
        clear h3
        go_enter Try.func63, Try.ntmps63
        go_wp2
        go_ret
        exact ⟨rfl, bw.out _ _⟩
    · have hf : B = false := by rw [hB]; simp [h2]
      clear hB
      subst hf
      have h2' : sz ≤ z := by omega
      clear h2
      go_enter Try.func63, Try.ntmps63
      go_wp2
      go_ret
      exact ⟨rfl, bw.out _ _⟩
  · have hf : B = false := by rw [hB]; simp [h1]
    clear hB
    subst hf
    have h1' : z < 2 := by omega
    clear h1
    go_enter Try.func63, Try.ntmps63
    go_wp2
    go_ret
    exact ⟨rfl, bw.out _ _⟩
set_option maxHeartbeats 1000000 in
theorem krises_of (p q : Pl) (w : World) : Calls Try.prog 64 #[.agg (plL p).toArray, .agg (plL q).toArray] w fun e w' => e = .returned (.bool (ltP p.1 q.1)) ∧ Below w.heap.size w w' := by
  obtain ⟨⟨t, b⟩, z, y⟩ := p
  obtain ⟨⟨t', b'⟩, z', y'⟩ := q
  dsimp only
  obtain ⟨B, hB⟩ : ∃ B, B = ltP (t, b) (t', b') := ⟨_, rfl⟩
  rw [← hB]
  have bw : Hid (∀ o o', Below w.heap.size w ((w.alloc o).alloc o')) := fun o o' => ((Below.refl _ _).alloc (Nat.le_refl _) o).alloc (by simp) o'
  simp only [plL]
  by_cases h1 : t = t'
  · subst h1
    have hf : B = decide (b < b') := by rw [hB]; simp [ltP]
    clear hB
    subst hf
    go_enter Try.func64, Try.ntmps64
    go_wp2
    go_ret
    exact ⟨rfl, bw.out _ _⟩
  · have hf : B = decide (t < t') := by rw [hB]; simp [ltP, h1]
    clear hB
    subst hf
    have h1' : (t != t') = true := by simp [h1]
    go_enter Try.func64, Try.ntmps64
    go_wp2
    go_ret
    exact ⟨rfl, bw.out _ _⟩
theorem Try.info_place : (Try.prog.info? 83).map (·.size) = some 4 := by kernel_rfl
def pl0 : Pl := ((0, 0), (0, 0))
set_option maxHeartbeats 1000000 in
theorem kplace_of (b c : Nat) (x : Pl) (w : World) (c0 : w.cell? ⟨b, 0, none⟩ = some (.int .u64 x.1.1)) (c1 : w.cell? ⟨b, 1, none⟩ = some (.int .u64 x.1.2)) (c2 : w.cell? ⟨b, 2, none⟩ = some (.int .u64 x.2.1)) (c3 : w.cell? ⟨b, 3, none⟩ = some (.int .u64 x.2.2)) (hr : Fit2 x) :
    Calls Try.prog 72 #[.slice (some ⟨b, 0, none⟩) 4 c] w fun e w' => e = .returned (.agg #[.int .u32 x.1.1, .int .u64 x.1.2, .int .i64 x.2.1, .int .i64 x.2.2]) ∧ Below w.heap.size w w' := by
  obtain ⟨q, hq⟩ : ∃ q, q = w.heap.size := ⟨_, rfl⟩
  obtain ⟨⟨t, bb⟩, z, y⟩ := x
  obtain ⟨⟨⟨f0, f1⟩, _⟩, ⟨k0, k1⟩, ⟨s0, s1⟩⟩ := hr
  dsimp only at c0 c1 c2 c3 f0 f1 k0 k1 s0 s1 ⊢
  have u0 : IntKind.u32.wrap t = t := by rw [IntKind.wrap_u32]; omega
  have u2 : IntKind.i64.wrap z = z := by rw [IntKind.wrap_i64]; omega
  have u3 : IntKind.i64.wrap y = y := by rw [IntKind.wrap_i64]; omega
  clear f0 f1 k0 k1 s0 s1
  have b0 : Blk (w.alloc (.cells #[.int .u32 0, .int .u64 0, .int .i64 0, .int .i64 0] 83)) q (plL pl0) 83 := Blk.new' hq.symm rfl
  have bw : Below q w (w.alloc (.cells #[.int .u32 0, .int .u64 0, .int .i64 0, .int .i64 0] 83)) := (Below.refl _ _).alloc (by omega) _
  have HQ : Hid (q = w.heap.size) := hq
  rw [← hq]
  go_enter Try.func72, Try.ntmps72
  go_upto_region 1 with fail
  rw [← hq]
  have bne : b ≠ q := by have := old_block c0; have := HQ.out; simp only at *; omega
  have c0' := (bw.cell (by rw [hq]; exact old_block c0)).trans c0
  have c1' := (bw.cell (by rw [hq]; exact old_block c1)).trans c1
  have c2' := (bw.cell (by rw [hq]; exact old_block c2)).trans c2
  have c3' := (bw.cell (by rw [hq]; exact old_block c3)).trans c3
  clear c0 c1 c2 c3 hq
  generalize hW : World.alloc w _ = W at c0' c1' c2' c3' b0 bw ⊢
  clear hW
  have e0 : W.cell? ⟨q, 0, none⟩ = some (.int .u32 0) := b0.cell 0
  have e1 : W.cell? ⟨q, 1, none⟩ = some (.int .u64 0) := b0.cell 1
  have e2 : W.cell? ⟨q, 2, none⟩ = some (.int .i64 0) := b0.cell 2
  have e3 : W.cell? ⟨q, 3, none⟩ = some (.int .i64 0) := b0.cell 3
  have z0 := b0.frozen 0
  have z1 := b0.frozen 1
  have z2 := b0.frozen 2
  have z3 := b0.frozen 3
  have qne : q ≠ b := fun e => bne e.symm
  have HB : Hid (Blk W q (plL pl0) 83 ∧ Below q w W) := ⟨b0, bw⟩
  clear b0 bw
  go_wp2
  go_region
  go_wp2
  have b3 : Blk ((((W.setCell ⟨q, 0, none⟩ (.int .u32 t)).setCell ⟨q, 1, none⟩ (.int .u64 bb)).setCell ⟨q, 2, none⟩ (.int .i64 z)).setCell ⟨q, 3, none⟩ (.int .i64 y)).drew q (plL ((t, bb), (z, y))) 83 := (HB.out.1.setAll (vs := plL ((t, bb), (z, y))) (by rfl)).drew
  exact bodyPost_ret (v := .agg (plL ((t, bb), (z, y))).toArray) (results_cell_one (p := 2) (ty := 83) rfl _ _ q _ _ _ rfl b3 Try.underlying83 rfl Try.info_place) rfl ⟨rfl, (((((HB.out.2.setCell (Nat.le_refl _) _).setCell (Nat.le_refl _) _).setCell (Nat.le_refl _) _).setCell (Nat.le_refl _) _)).drew⟩
end Go.Proofs.Yteokhkoaieibmaa
