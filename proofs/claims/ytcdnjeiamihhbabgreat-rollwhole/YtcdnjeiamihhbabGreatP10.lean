/- P10 -/
import Derived.BigRegion
import Derived.Laws.ResultCell
import Derived.Test.YtcdnjeiamihhbabGreatP9
set_option linter.unusedVariables false
set_option maxRecDepth 4000
namespace Go.Proofs.YtcdnjeiamihhbabGreat
open Go.RowKit
/-- A list of bytes as it lies in memory: its address, length and room, and its bytes. -/
structure Lst where
 a : Option Addr
 len : Nat
 cap : Nat
 zs : List Int
/-- It lies in the world: so many bytes, each in its cell. -/
def Lst.In (l : Lst) (w : World) : Prop :=
 l.zs.length = l.len ∧ l.len ≤ maxLen ∧ (∀ z ∈ l.zs, Fits8 z) ∧
 (l.len = 0 ∨ ∃ b off, l.a = some ⟨b, off, none⟩ ∧ ∀ i, i < l.len → w.cell? ⟨b, off + i, none⟩ = some (.int .u8 (l.zs.getD i 0)))
def bytesOf (ls : List Lst) : List Int := ls.flatMap (·.zs)
theorem ctake_snoc {α : Type} (l : List α) (k : Nat) (h : k < l.length) : l.take (k + 1) = l.take k ++ [l[k]] :=
 List.take_succ_eq_append_getElem h
theorem cr_take (s : Int) (zs : List Int) (k : Nat) (h : k < zs.length) : crI s (zs.take (k + 1)) = crN (crI s (zs.take k)) (zs.getD k 0) := by
 rw [ctake_snoc zs k h, crI_snoc]; simp [List.getD, h]
theorem cbytes_take (ls : List Lst) (k : Nat) (h : k < ls.length) : bytesOf (ls.take (k + 1)) = bytesOf (ls.take k) ++ ls[k].zs := by
 unfold bytesOf; rw [ctake_snoc ls k h, List.flatMap_append]; simp
theorem fits_take {zs : List Int} (h : ∀ z ∈ zs, Fits8 z) (k : Nat) : ∀ z ∈ zs.take k, Fits8 z := fun z hz => h z (List.mem_of_mem_take hz)
theorem fits_getD {zs : List Int} (h : ∀ z ∈ zs, Fits8 z) (k : Nat) : Fits8 (zs.getD k 0) := by
 by_cases hk : k < zs.length
 ·have : zs.getD k 0 = zs[k] := by simp [List.getD, hk]
  rw [this]; exact h _ (List.getElem_mem hk)
 ·have : zs.getD k 0 = 0 := by simp [List.getD, List.getElem?_eq_none (by omega : zs.length ≤ k)]
  rw [this]; unfold Fits8; omega
/-- Lists that lie in the world one behind the other in cells. -/
def ListsIn (w : World) (a : Option Addr) (ls : List Lst) : Prop :=
 ls.length ≤ maxLen ∧ (∀ l ∈ ls, l.In w) ∧
 (ls.length = 0 ∨ ∃ b off, a = some ⟨b, off, none⟩ ∧ ∀ i (h : i < ls.length), w.cell? ⟨b, off + i, none⟩ = some (.slice ls[i].a ls[i].len ls[i].cap))
theorem cbytes_fit {w : World} {a : Option Addr} {ls : List Lst} (h : ListsIn w a ls) : ∀ z ∈ bytesOf ls, Fits8 z := by
 intro z hz
 simp only [bytesOf, List.mem_flatMap] at hz
 obtain ⟨l, hl, hz⟩ := hz
 exact (h.2.1 l hl).2.2.1 z hz
set_option maxHeartbeats 400000 in
theorem crcSum_any (a : Option Addr) (cap n : Nat) (ls : List Lst) (w : World) (hn : ls.length = n) (h : ListsIn w a ls) :
  Calls Tryz.prog 41 #[.slice a n cap] w fun e w' => e = .returned (.int .u32 (crI 0 (bytesOf ls))) ∧ w' = w := by
 have H : Hid (ls.length = n ∧ ListsIn w a ls) := ⟨hn, h⟩
 have hm : n ≤ maxLen := by rw [← hn]; exact h.1
 unfold maxLen at hm
 clear hn h
 go_enter Tryz.func41, Tryz.ntmps41
 go_wp2
 go_loop [3, 10] (fun s i => ∃ k : Nat, k ≤ n ∧ i = .int .i64 k ∧ s = .int .u32 (crI 0 (bytesOf (ls.take k)))) (fun _ i => n - (intOf i).toNat)
 case atStart => exact ⟨0, by omega, rfl, rfl⟩
 case round =>
  obtain ⟨k, hk, rfl, rfl⟩ := hrel
  by_cases hlt : k < n
  ·have hkl : k < ls.length := by rw [H.out.1]; exact hlt
   obtain ⟨b, off, ha, hc⟩ := H.out.2.2.2.resolve_left (by omega)
   subst ha
   replace hc := hc k hkl
   have hin := H.out.2.2.1 ls[k] (List.getElem_mem hkl)
   have HB : Hid (bytesOf (ls.take (k + 1)) = bytesOf (ls.take k) ++ ls[k].zs) := cbytes_take ls k hkl
   have HF : Hid (Fits32 (crI 0 (bytesOf (ls.take k)))) := crI_fits fits0 (fun z hz => by
    have : z ∈ bytesOf ls := by
     simp only [bytesOf, List.mem_flatMap] at hz ⊢
     obtain ⟨l, hl, hz⟩ := hz
     exact ⟨l, List.mem_of_mem_take hl, hz⟩
    exact cbytes_fit H.out.2 z this)
   generalize hL : ls[k] = L at hc hin HB
   clear hL
   obtain ⟨a', len', cap', zs'⟩ := L
   obtain ⟨hz, hm', hfit, hcells⟩ := hin
   have HZ : Hid (zs'.length = len' ∧ (∀ z ∈ zs', Fits8 z)) := ⟨hz, hfit⟩
   replace hm' : len' ≤ maxLen := hm'
   unfold maxLen at hm'
   replace hc : w.cell? ⟨b, off + k, none⟩ = some (.slice a' len' cap') := hc
   have HC : Hid (len' = 0 ∨ ∃ b off, a' = some ⟨b, off, none⟩ ∧ ∀ i, i < len' → w.cell? ⟨b, off + i, none⟩ = some (.int .u8 (zs'.getD i 0))) := hcells
   clear hz hfit hcells
   go_wp2
   go_loop [3, 16] (fun s i => ∃ j : Nat, j ≤ len' ∧ i = .int .i64 j ∧ s = .int .u32 (crI (crI 0 (bytesOf (ls.take k))) (zs'.take j))) (fun _ i => len' - (intOf i).toNat)
   case atStart => exact ⟨0, by omega, rfl, rfl⟩
   case round =>
    obtain ⟨j, hj, rfl, rfl⟩ := hrel
    by_cases hjt : j < len'
    ·obtain ⟨b', off', ha', hcs⟩ := HC.out.resolve_left (by omega)
     subst ha'
     replace hcs := hcs j hjt
     have hf := crI_fits HF.out (fits_take HZ.out.2 j)
     have hg := fits_getD HZ.out.2 j
     have HS : Hid (crI (crI 0 (bytesOf (ls.take k))) (zs'.take (j + 1)) = crN (crI (crI 0 (bytesOf (ls.take k))) (zs'.take j)) (zs'.getD j 0)) := cr_take _ _ _ (by rw [HZ.out.1]; exact hjt)
     go_wp2_with (go_at_call 74; refine (crcNext_of _ _ _ hf hg).mono ?_; rintro e w' ⟨rfl, rfl⟩)
     go_round
     case rel => exact ⟨j + 1, by omega, by go_num, val_u32 HS.out.symm⟩
     case measure => simp [intOf]; omega
    ·have HT : Hid (zs'.take j = zs') := List.take_of_length_le (by rw [HZ.out.1]; omega)
     go_wp2
     go_round
     case rel => exact ⟨k + 1, by omega, by go_num, val_u32 (by rw [HB.out, crI_append, HT.out])⟩
     case measure => simp [intOf]; omega
  ·have : k = n := by omega
   subst this
   have HT : Hid (ls.take k = ls) := List.take_of_length_le (by rw [H.out.1]; omega)
   go_wp2
   go_ret
   exact ⟨ret_u32 (by rw [HT.out]), rfl⟩
/-- One list, whose header lies in a cell. -/
theorem crcSum_of (g : Nat) (a : Option Addr) (n c d : Nat) (zs : List Int) (w : World) (hc : w.cell? ⟨g, 0, none⟩ = some (.slice a n c)) (h : BIn w a n zs) :
  Calls Tryz.prog 41 #[.slice (some ⟨g, 0, none⟩) 1 d] w fun e w' => e = .returned (.int .u32 (crI 0 zs)) ∧ w' = w := by
 have := crcSum_any (some ⟨g, 0, none⟩) d 1 [⟨a, n, c, zs⟩] w rfl ⟨by unfold maxLen; simp, by intro l hl; simp at hl; subst hl; exact h, .inr ⟨g, 0, rfl, fun i hi => by
  match i, hi with
  | 0, _ => exact hc⟩⟩
 simpa [bytesOf] using this
end Go.Proofs.YtcdnjeiamihhbabGreat
namespace Go.Proofs.YtcdnjeiamihhbabGreat
open Go.RowKit Go.Shelf
theorem and_power : ∀ n : Fin 4097, 64 ≤ n.val → (decide (bits BinOp.and IntKind.i64 (n.val : Int) ((n.val : Int) - 1) = 0) = decide ((n.val : Int) ∈ Powers)) := by decide +kernel
theorem and_of {b : Int} (h1 : 64 ≤ b) (h2 : b ≤ 4096) : bits BinOp.and IntKind.i64 b (b - 1) = 0 ↔ b ∈ Powers := by
 have := and_power ⟨b.toNat, by omega⟩ (by show 64 ≤ b.toNat; omega)
 have e : ((b.toNat : Nat) : Int) = b := by omega
 simp only [e] at this
 exact decide_eq_decide.1 this
set_option maxHeartbeats 2000000 in
theorem right_of (s : Sh) (w : World) (hz : -9223372036854775808 ≤ s.z) :
  Calls Tryz.prog 60 #[.agg (shL s).toArray] w fun e w' => e = .returned (.bool (decide (RightS s))) ∧ Below w.heap.size w w' := by
 obtain ⟨z, zb, b, r⟩ := s
 obtain ⟨B, hB⟩ : ∃ B, B = decide (RightS ⟨z, zb, b, r⟩) := ⟨_, rfl⟩
 rw [← hB]
 have HB : Hid (B = decide (RightS ⟨z, zb, b, r⟩)) := hB
 clear hB
 have bw : Hid (∀ o, Below w.heap.size w (w.alloc o)) := fun o => (Below.refl _ _).alloc (Nat.le_refl _) o
 by_cases h1 : (decide (6 ≤ z) && decide (z ≤ 256)) = true
 ·by_cases h2 : (decide (8 ≤ zb) && decide (zb ≤ 4096)) = true
  ·by_cases h3 : (decide (64 ≤ b) && decide (b ≤ 4096)) = true
   ·simp only [Bool.and_eq_true, decide_eq_true_eq] at h1 h2 h3
    obtain ⟨z1, z2⟩ := h1
    obtain ⟨y1, y2⟩ := h2
    obtain ⟨x1, x2⟩ := h3
    have hw : IntKind.i64.wrap (b - 1) = b - 1 := by rw [IntKind.wrap_i64]; omega
    have hw4 : IntKind.i64.wrap (z - 4) = z - 4 := by rw [IntKind.wrap_i64]; omega
    by_cases hp : b ∈ Powers
    ·have hand := (and_of x1 x2).2 hp
     have hf : B = (decide (2 ≤ r) && decide (r ≤ z - 4)) := by
      rw [HB.out]; simp [RightS, z1, z2, y1, y2, hp]
     clear HB
     subst hf
     clear hp
     simp only [shL]
     go_enter Tryz.func60, Tryz.ntmps60
     go_wp2_with (go_at_call 39; refine (within_of _ _ _ _).mono ?_; rintro e w' ⟨rfl, rfl⟩)
     go_ret
     exact ⟨rfl, bw.out _⟩
    ·have hand : ¬ bits BinOp.and IntKind.i64 b (b - 1) = 0 := fun h => hp ((and_of x1 x2).1 h)
     have hf : B = false := by
      rw [HB.out]; simp [RightS, hp]
     clear HB
     subst hf
     clear hp
     simp only [shL]
     go_enter Tryz.func60, Tryz.ntmps60
     go_wp2_with (go_at_call 39; refine (within_of _ _ _ _).mono ?_; rintro e w' ⟨rfl, rfl⟩)
     go_ret
     exact ⟨rfl, bw.out _⟩
   ·have h3' : (decide (64 ≤ b) && decide (b ≤ 4096)) = false := by simpa using h3
    have hf : B = false := by
     rw [HB.out]; refine decide_eq_false ?_; rintro ⟨_, _, _, _, h, _⟩; have := power_bounds h; simp at h3; simp only at this; omega
    clear h3 HB
    subst hf
    simp only [shL]
    go_enter Tryz.func60, Tryz.ntmps60
    go_wp2_with (go_at_call 39; refine (within_of _ _ _ _).mono ?_; rintro e w' ⟨rfl, rfl⟩)
    go_ret
    exact ⟨rfl, bw.out _⟩
  ·have h2' : (decide (8 ≤ zb) && decide (zb ≤ 4096)) = false := by simpa using h2
   have hf : B = false := by
    rw [HB.out]; refine decide_eq_false ?_; rintro ⟨_, _, a1, a2, _⟩; simp only at a1 a2; simp at h2; omega
   clear h2 HB
   subst hf
   simp only [shL]
   go_enter Tryz.func60, Tryz.ntmps60
   go_wp2_with (go_at_call 39; refine (within_of _ _ _ _).mono ?_; rintro e w' ⟨rfl, rfl⟩)
   go_ret
   exact ⟨rfl, bw.out _⟩
 ·have h1' : (decide (6 ≤ z) && decide (z ≤ 256)) = false := by simpa using h1
  have hf : B = false := by
   rw [HB.out]; refine decide_eq_false ?_; rintro ⟨a1, a2, _⟩; simp only at a1 a2; simp at h1; omega
  clear h1 HB
  subst hf
  simp only [shL]
  go_enter Tryz.func60, Tryz.ntmps60
  go_wp2_with (go_at_call 39; refine (within_of _ _ _ _).mono ?_; rintro e w' ⟨rfl, rfl⟩)
  go_ret
  exact ⟨rfl, bw.out _⟩
end Go.Proofs.YtcdnjeiamihhbabGreat
namespace Go.Proofs.YtcdnjeiamihhbabGreat
open Go.RowKit
theorem and_ofR {b : Int} (h1 : 64 ≤ b) (h2 : b ≤ 4096) : bits BinOp.and IntKind.i64 b (b - 1) = 0 ↔ b ∈ PowR := and_of h1 h2
theorem nin_lit (t : TypeId) {w : World} {g n : Nat} {L : List Int} {C : Array Value} {fr : Nat × Nat} (hk : w.heap.size = g) (hC : C = (kInts .i64 L).toArray) (hn : L.length = n) (hf : (L.all fun z => (Lit.int .i64 z).wf) = true) (hm : n ≤ 1000) :
  NIn .i64 (w.alloc (.cells C t fr)) (some ⟨g, 0, none⟩) n L := new_nin hk hC hn (List.all_eq_true.1 hf) (by unfold maxLen; omega)
theorem nin_litU (t : TypeId) {w : World} {g n : Nat} {L : List Int} {C : Array Value} {fr : Nat × Nat} (hk : w.heap.size = g) (hC : C = (kInts .u64 L).toArray) (hn : L.length = n) (hf : ∀ z ∈ L, FitsU z) (hm : n ≤ 1000) :
  NIn .u64 (w.alloc (.cells C t fr)) (some ⟨g, 0, none⟩) n L := new_nin hk hC hn (fun z hz => wfU (hf z hz)) (by unfold maxLen; omega)
theorem str_ne {xs ys : List Int} (hx : ∀ z ∈ xs, Fits8 z) (hy : ∀ z ∈ ys, Fits8 z) (h : xs ≠ ys) : strOfNums xs ≠ strOfNums ys := by
 intro e
 apply h
 have e1 : (xs.map fun n => UInt8.ofNat n.toNat) = ys.map fun n => UInt8.ofNat n.toNat := by rw [← strOfNums_data, ← strOfNums_data, e]
 have hl : xs.length = ys.length := by simpa using congrArg List.length e1
 apply List.ext_getElem hl
 intro i h1 h2
 have e2 : (xs.map fun n => UInt8.ofNat n.toNat)[i]'(by simpa using h1) = (ys.map fun n => UInt8.ofNat n.toNat)[i]'(by simpa using h2) := by simp only [e1]
 simp only [List.getElem_map] at e2
 have e3 := congrArg UInt8.toNat e2
 have f1 := hx _ (List.getElem_mem h1)
 have f2 := hy _ (List.getElem_mem h2)
 unfold Fits8 at f1 f2
 simp only [UInt8.toNat_ofNat'] at e3
 omega
theorem str_other {xs ys : List Int} (hx : ∀ z ∈ xs, Fits8 z) (hy : ∀ z ∈ ys, Fits8 z) (h : xs ≠ ys) : ((strOfNums xs).toList == (strOfNums ys).toList) = false := by
 rw [beq_eq_false_iff_ne]
 intro e
 rw [Lib.strOfNums_toList, Lib.strOfNums_toList] at e
 refine str_ne hx hy h ?_
 have e1 : (strOfNums xs).data.toList = (strOfNums ys).data.toList := e
 have e2 : (strOfNums xs).data = (strOfNums ys).data := Array.toList_inj.1 e1
 exact congrArg ByteArray.mk e2
/-- Are lists of bytes alike? -/
theorem equal_of (a : Option Addr) (n c : Nat) (xs : List Int) (b : Option Addr) (m d : Nat) (ys : List Int) (w : World) (hx : BIn w a n xs) (hy : BIn w b m ys) :
  Calls Tryz.prog 112 #[.slice a n c, .slice b m d] w fun e w' => e = .returned (.bool (decide (xs = ys))) ∧ w' = w := by
 have h1 := str_of w a n c xs hx
 have h2 := str_of w b m d ys hy
 by_cases h : xs = ys
 ·subst h
  simp only [decide_true]
  go_enter Tryz.func112, Tryz.ntmps112
  go_wp2
  go_ret
  exact ⟨rfl, rfl⟩
 ·have h3 := str_other hx.2.2.1 hy.2.2.1 h
  rw [decide_eq_false h]
  clear h hx hy
  go_enter Tryz.func112, Tryz.ntmps112
  go_wp2
  go_ret
  exact ⟨rfl, rfl⟩
def diedE (s : ByteArray) : Ending := .panicked [{ v := .iface 9 (.string s), recovered := false }]
theorem cmade_bytes (n : Nat) (w : World) : Blk (w.alloc (.cells (madeCells #[.int .u8 0] n) 5)) w.heap.size (u8s (List.replicate n 0)) 5 := by
 refine Blk.new' rfl ?_
 apply Array.ext'
 rw [toList_madeCells_one]
 simp [u8s]
theorem splice_end {P Q : List Int} {m : Nat} (h : Q.length ≤ m) : splice (P ++ List.replicate m 0) P.length Q = (P ++ Q) ++ List.replicate (m - Q.length) 0 := by
 unfold splice
 rw [List.take_left' rfl, List.drop_append, List.drop_eq_nil_of_le (by omega)]
 simp
theorem join_splice {p : List Int} : splice p 4 (bigI 4 (crI 0 p)) = joinL p := by
 unfold splice joinL
 rw [bigI_length]
theorem pack4 (v : Int) : packL [4] [v] = bigI 4 v := by simp [packL, wd]
theorem NIn.drew {k : IntKind} {w : World} {a : Option Addr} {n : Nat} {zs : List Int} (h : NIn k w a n zs) : NIn k w.drew a n zs := h
theorem u8s_splice (L : List Int) (o : Nat) (zs : List Int) : splice (u8s L) o (u8s zs) = u8s (splice L o zs) := by simp [splice, u8s, List.map_take, List.map_drop]
theorem splice_length {L zs : List Int} {o : Nat} (h : o + zs.length ≤ L.length) : (splice L o zs).length = L.length := by
 simp only [splice, List.length_append, List.length_take, List.length_drop]; omega
theorem copy_src {w : World} {q o : Nat} {a : Option Addr} {n : Nat} {zs : List Int} (h : BIn w a n zs) : 0 < (u8s zs).length → (some ⟨q, o, none⟩ : Option Addr) = some ⟨q, o, none⟩ ∧ ∃ ad, a = some ad ∧ ∀ j v, (u8s zs)[j]? = some v → w.cell? (ad.add j) = some v := by
 intro hp
 refine ⟨rfl, ?_⟩
 obtain ⟨hl, _, _, hc⟩ := h
 rw [u8s_length, hl] at hp
 obtain ⟨b, off, rfl, hcell⟩ := hc.resolve_left (by omega)
 refine ⟨_, rfl, fun j v hj => ?_⟩
 have hjl : j < n := by
  have := (List.getElem?_eq_some_iff.1 hj).1
  rwa [u8s_length, hl] at this
 rw [Addr.add_mid, hcell j hjl, ← hj]
 simp [u8s, List.getD, hl, hjl]
/-- A copy into a row, as a step of a region that draws its order: no other block changes. -/
theorem step_copy_one {P : Program} {ops : Array Oper} {o : Oper} {a : Act} {w : World} {K : Act → World → Prop} {Q : Exit → Act → World → Prop} {E : Prop} (hgd : o.guard = none) (d s : Operand) (dT sT : TypeId)
  (ho : o.op = .call { callee := .builtin .copy, args := #[d, s], argTypes := #[dT, sT] }) (elem : TypeId) (hu : P.underlying dT = some (.slice elem)) (hsz : (P.info? elem).map (·.size) = some 1)
  (dp sp : Option Addr) (dLen dCap sLen sCap : Nat) (hd : a.eval d = .slice dp dLen dCap) (hs : a.eval s = .slice sp sLen sCap)
  (g off : Nat) (cur : List Value) (t : TypeId) (hg : Blk w g cur t) (cs : List Value) (hn : cs.length = Nat.min sLen dLen)
  (hpos : 0 < cs.length → dp = some ⟨g, off, none⟩ ∧ ∃ ad, sp = some ad ∧ ∀ j v, cs[j]? = some v → w.cell? (ad.add j) = some v)
  (hfit : off + cs.length ≤ cur.length) (h1 : ∀ v ∈ cs, v.oneCell' = true)
  (h : ∀ w', Blk w' g (splice cur off cs) t → Below g w w' → (∀ k, k ≠ g → w'.heap[k]? = w.heap[k]?) → w'.heap.size = w.heap.size → K (a.put o.dst (goInt cs.length)) w') :
  if Region.wanted o (yielded ops a.tmps) = true then Oper.wp P o a w K Q else E := by
 have hw : Region.wanted o (yielded ops a.tmps) = true := by simp [Region.wanted, hgd]
 rw [if_pos hw]
 by_cases h0 : cs.length = 0
 ·obtain rfl : cs = [] := List.eq_nil_of_length_eq_zero h0
  have hrun := run_copy_none (P := P) w dT sT o.type elem dp sp dLen dCap sLen sCap hu hsz (by simpa using hn.symm)
  unfold Oper.wp
  simp [execOp, ho, resolve, invoke, builtin, hd, hs, hrun, Result.andThen]
  exact h w (by have e : splice cur off ([] : List Value) = cur := (by simp [splice])
                rw [e]; exact hg) (Below.refl _ _) (fun _ _ => rfl) rfl
 ·obtain ⟨rfl, ad, rfl, hsrc⟩ := hpos (by omega)
  have hrun := run_copy_row (P := P) w dT sT o.type elem g off dLen dCap ad sLen sCap cur.toArray t cs hu hsz hg hn hsrc (by simpa using hfit) h1
  unfold Oper.wp
  simp [execOp, ho, resolve, invoke, builtin, hd, hs, hrun, Result.andThen]
  exact h _ (show _ = _ by simpa [splice] using setRow_heap w g _ _ t _ hg) (below_setRow (Below.refl _ _) (Nat.le_refl _) _) (fun k hk => setRow_other w g k _ hk) (by simp [World.setRow])
theorem blk_same {w w' : World} {g : Nat} {L : List Value} {t : TypeId} (h : Blk w g L t) (e : w'.heap[g]? = w.heap[g]?) : Blk w' g L t := by unfold Blk; rw [e]; exact h
theorem cfront_enough (xs : List Int) (k : Nat) : k ≤ (xs.take k).length ↔ k ≤ xs.length := by rw [List.length_take]; omega
theorem cval_take : ∀ (ws : List Int) (xs : List Int) (k : Nat), offL ws ≤ k → valL (xs.take k) ws = valL xs ws
 | [], _, _, _ => rfl
 | x :: ws, xs, k, h => by
  simp only [offL] at h
  simp only [valL]
  rw [List.take_take, Nat.min_eq_left (by omega), List.drop_take, cval_take ws _ _ (by omega)]
theorem ctakeV_take (xs ws : List Int) : takeV (xs.take (offL ws)) ws = takeV xs ws := by
 unfold takeV
 by_cases h : offL ws ≤ xs.length
 ·rw [if_pos h, if_pos ((cfront_enough _ _).2 h), cval_take ws xs _ (Nat.le_refl _)]
 ·rw [if_neg h, if_neg (fun e => h ((cfront_enough _ _).1 e))]
/-- What is left behind i bytes, as slicing leaves it. -/
def cleftV (a : Option Addr) (n c i : Nat) : Value := .slice (if c = i then a else a.map (·.add i)) (n - i) (c - i)
theorem cown_at {w : World} {base k C : Nat} {A : Option Addr} {L : List Int} (h : w.ownsRow base 36 1 (.slice A k C) k (kInts .u64 L)) (h0 : L ≠ []) : ∃ g, A = some ⟨g, 0, none⟩ ∧ k = L.length ∧ base ≤ g ∧ k ≤ C ∧ ∀ i, i < L.length → w.cell? ⟨g, i, none⟩ = some (.int .u64 (L.getD i 0)) := by
 have hl : L.length = k := by have := h.1; simp [kInts] at this; omega
 have hp : 0 < L.length := List.length_pos_iff.2 h0
 rcases h.2 with ⟨hv, hn⟩ | ⟨g, cap, cur, hv, hb, hg, hc, hcm, hsz, htake⟩
 ·omega
 ·cases hv
  refine ⟨g, rfl, hl.symm, hb, hc, fun i hi => ?_⟩
  have hcl := h.cells (g := g) rfl i (.int .u64 (L.getD i 0)) (by simp [kInts, List.getD, hi])
  rw [Addr.add_mid, Nat.zero_add] at hcl
  exact hcl
theorem cback_nil {a : Option Addr} {n c i : Nat} (hi : i ≤ n) (hn : a = none → n = 0 ∧ c = 0) : (if c = i then a else a.map (·.add i)) = none → n - i = 0 ∧ c - i = 0 := by
 intro e
 have : a = none := by
  split at e
  ·exact e
  ·cases a with
   | none => rfl
   | some x => cases e
 have := hn this
 omega
theorem cstep_append_run {ops : Array Oper} {o : Oper} {a : Act} {w : World} {K : Act → World → Prop} {Q : Exit → Act → World → Prop} {E : Prop} (hg : o.guard = none) (s x : Operand) (t t2 : TypeId)
  (hop : o.op = .call { callee := .builtin .append, args := #[s, x], argTypes := #[t, t2] }) (sv xv : Value) (hs : a.eval s = sv) (hx : a.eval x = xv) (v : Value) (w' : World) (hrun : (Builtin.append_ #[t, t2] o.type #[sv, xv]).run Tryz.prog w = .ok v w') (hK : K (a.put o.dst v) w') :
  if Region.wanted o (yielded ops a.tmps) = true then Oper.wp Tryz.prog o a w K Q else E := by
 have hw : Region.wanted o (yielded ops a.tmps) = true := by simp [Region.wanted, hg]
 rw [if_pos hw]
 unfold Oper.wp
 simp [execOp, hop, resolve, invoke, builtin, hs, hx, hrun, Result.andThen]
 exact hK
def noCk : ByteArray := ⟨#[99, 107, 112, 116, 58, 32, 116, 104, 101, 32, 98, 108, 111, 99, 107, 115, 32, 97, 114, 101, 32, 110, 111, 32, 99, 104, 101, 99, 107, 112, 111, 105, 110, 116]⟩
def noBk : ByteArray := ⟨#[99, 107, 112, 116, 58, 32, 116, 104, 101, 32, 115, 116, 97, 116, 101, 32, 104, 97, 115, 32, 110, 111, 32, 98, 108, 111, 99, 107, 115]⟩
def CTook (g : Nat) (a : Option Addr) (n c : Nat) (xs ws : List Int) (w : World) (e : Ending) (w' : World) : Prop :=
 (offL ws ≤ n ∧ ∃ A k C w2, e = .returned (.slice A k C) ∧ Below w.heap.size w w2 ∧ w' = w2.setCell ⟨g, 0, none⟩ (cleftV a n c (offL ws)) ∧ w2.ownsRow w.heap.size 36 1 (.slice A k C) k (kInts .u64 (valL xs ws))) ∨
 (n < offL ws ∧ e = diedE noCk ∧ Below w.heap.size w w')
set_option maxHeartbeats 1000000 in
theorem ctake_of (g : Nat) (a : Option Addr) (n c o : Nat) (xs : List Int) (b : Option Addr) (m d : Nat) (ws : List Int) (w : World) (ho : o = offL ws) (hg : w.cell? ⟨g, 0, none⟩ = some (.slice a n c)) (hz : w.frozen? ⟨g, 0, none⟩ = false) (hx : BIn w a n xs) (hnil : a = none → n = 0 ∧ c = 0) (hnc : n ≤ c) (hy : NIn .i64 w b m ws) (hn : n ≤ 100000) (hm : m ≤ 1000) :
  Calls Tryz.prog 192 #[.pointer (some ⟨g, 0, none⟩), .int .i64 (o : Nat), .slice b m d] w (CTook g a n c xs ws w) := by
 have hob : o ≤ 8000 := by have := offL_le ws; have := hy.1; omega
 have H : Hid (BIn w a n xs ∧ NIn .i64 w b m ws ∧ (a = none → n = 0 ∧ c = 0) ∧ n ≤ c ∧ w.cell? ⟨g, 0, none⟩ = some (.slice a n c) ∧ w.frozen? ⟨g, 0, none⟩ = false ∧ o = offL ws) := ⟨hx, hy, hnil, hnc, hg, hz, ho⟩
 clear hx hy hnil hnc hg hz ho
 obtain ⟨M, hM⟩ : ∃ M : Nat, M = min o n := ⟨_, rfl⟩
 have hM' : (if n < o then (n : Int) else o) = M := by rw [hM]; split <;> omega
 have hMc : M ≤ c := by have := H.out.2.2.2.1; omega
 have hsl := fun w => slice_front Tryz.underlying51 Tryz.one_bytes a n c M hMc w
 have hMn : M ≤ n := by omega
 have eX : xs.take M = xs.take (offL ws) := by
  rw [← H.out.2.2.2.2.2.2]
  by_cases h : o ≤ n
  ·rw [hM, Nat.min_eq_left h]
  ·rw [hM, Nat.min_eq_right (by omega), List.take_of_length_le (by rw [H.out.1.1]; exact Nat.le_refl _), List.take_of_length_le (by rw [H.out.1.1]; omega)]
 have HM : Hid (xs.take M = xs.take (offL ws) ∧ M ≤ n ∧ M ≤ c) := ⟨eX, hMn, hMc⟩
 clear hM eX hMc hMn
 have c0 := H.out.2.2.2.2.1
 have cT := take_of a M c (xs.take M) b m d ws w.drew ((H.out.1.n.front M HM.out.2.1).b) (fun e => by have := H.out.2.2.1 e; have := HM.out; omega) HM.out.2.2 H.out.2.1 (by have := HM.out; omega) (by omega)
 have ed : decide (offL ws ≤ (xs.take (offL ws)).length) = decide (o ≤ n) := decide_eq_decide.2 (by rw [cfront_enough, ← H.out.2.2.2.2.2.2, H.out.1.1])
 rw [HM.out.1, ctakeV_take, ed] at cT
 clear ed
 go_enter Tryz.func192, Tryz.ntmps192
 go_upto_region 1 with fail
 go_region_held3 (fun w' => w'.cell? ⟨g, 0, none⟩ = some (.slice a n c)) (first | exact c0 | exact c2)
  (first | (go_simp; go_at_call 219; refine cT.mono ?_; rintro e w2 ⟨A, k, C, R, r, D, rfl, ow, -, bl⟩; have bl' : Below w.heap.size w w2 := (Below.refl _ _).drew.trans bl; have c2 : w2.cell? ⟨g, 0, none⟩ = some (.slice a n c) := by (rw [bl'.cell (old_block c0)]; exact c0)))
 have f2 : w2.frozen? ⟨g, 0, none⟩ = false := by rw [bl'.frozen (old_block c0)]; exact H.out.2.2.2.2.2.1
 have HE : Hid (w2.ownsRow w.heap.size 36 1 (.slice A k C) k (kInts .u64 (takeV xs ws)) ∧ Below w.heap.size w w2) := ⟨ow, bl'⟩
 clear ow bl cT bl' c0 hM' hsl
 by_cases hen : o ≤ n
 ·rw [decide_eq_true hen]
  have hen' : (o : Int) ≤ n := by omega
  obtain ⟨A', eA⟩ : ∃ A', .slice A' (n - o) (c - o) = cleftV a n c o := ⟨_, rfl⟩
  have hb := fun w => slice_back Tryz.underlying51 Tryz.one_bytes a n c o hen w
  have hb' : ∀ w : World, (Instr.slice 51 (.slice a n c) (some (.int .i64 (o : Int))) none none).run Tryz.prog w = .ok (.slice A' (n - o) (c - o)) w := fun w => by rw [hb w, eA]; rfl
  have HA : Hid (.slice A' (n - o) (c - o) = cleftV a n c o) := eA
  clear eA hb
  go_wp2
  go_ret
  refine .inl ⟨by rw [← H.out.2.2.2.2.2.2]; exact hen, A, k, C, w2, rfl, HE.out.2, by rw [← H.out.2.2.2.2.2.2, ← HA.out], ?_⟩
  have := HE.out.1
  rwa [show takeV xs ws = valL xs ws by unfold takeV; rw [if_pos (by rw [← H.out.2.2.2.2.2.2, H.out.1.1]; exact hen)]] at this
 ·rw [decide_eq_false hen]
  go_wp2
  refine ⟨rfl, .inr ⟨by rw [← H.out.2.2.2.2.2.2]; omega, rfl, HE.out.2⟩⟩
end Go.Proofs.YtcdnjeiamihhbabGreat
