/- Texts of this seat, one behind the other: CNext, CSum, ZRight, CkBase. -/
import Derived.Test.YtncnkpnfmbgifaaGreatProg
import Derived.Test.YtncnkpnfmbgifaaGreatP1
import Derived.WalkKit
import Derived.WalkSpells
import Derived.WalkLawsBesides
import Derived.Test.YtncnkpnfmbgifaaGreatP4
import Derived.Test.YtncnkpnfmbgifaaGreatP5
import Derived.Test.YtncnkpnfmbgifaaGreatP7
import Derived.BigQuiet
import Derived.BigRegion
import Derived.Laws.ResultCell
import Derived.Deep.RegionLaw
import Derived.Deep.RegionHeld3
import Derived.Defers
import Derived.Recover
/- What one call of halve, of Next and of the document's own Next does: it hands back the plain function's number and touches nothing. -/
namespace Go.Proofs.YtncnkpnfmbgifaaGreat
open Go.RowKit
set_option linter.unusedVariables false
set_option maxRecDepth 4000

theorem crH_odd {c : Int} (h : (bits .and .u32 c 1 == 1) = true) : crH c = bits .xor .u32 (c / 2) 3988292384 := if_pos h
theorem crH_even {c : Int} (h : (bits .and .u32 c 1 == 1) = false) : crH c = c / 2 := if_neg (by rw [h]; decide)
theorem and_one {c : Int} (h0 : 0 ≤ c) (h1 : c < 4294967296) : bits .and .u32 c 1 = c % 2 := by
 have := u32_and c 1 h0 h1 (by omega) (by omega)
 rw [this, show (1 : Int).toNat = 1 from rfl, nat_mask1]
 omega
theorem crH_odd' {c : Int} (h0 : 0 ≤ c) (h1 : c < 4294967296) (h : (c % 2 == 1) = true) : crH c = bits .xor .u32 (c / 2) 3988292384 := crH_odd (by rw [and_one h0 h1]; exact h)
theorem crH_even' {c : Int} (h0 : 0 ≤ c) (h1 : c < 4294967296) (h : (c % 2 == 1) = false) : crH c = c / 2 := crH_even (by rw [and_one h0 h1]; exact h)
theorem val_u32 {a b : Int} (h : a = b) : Value.int .u32 a = .int .u32 b := by rw [h]
theorem ret_u32 {a b : Int} (h : a = b) : Ending.returned (.int .u32 a) = .returned (.int .u32 b) := by rw [h]

set_option maxHeartbeats 400000 in
theorem crcHalve_of (c : Int) (w : World) (h0 : 0 ≤ c) (h1 : c < 4294967296) :
  Calls Tryz.prog 224 #[.int .u32 c] w fun e w' => e = .returned (.int .u32 (crH c)) ∧ w' = w := by
 go_enter Tryz.func224, Tryz.ntmps224
 go_wp2
 ·go_ret
  exact ⟨ret_u32 (crH_odd ‹_›).symm, rfl⟩
 ·go_ret
  exact ⟨ret_u32 (crH_even ‹_›).symm, rfl⟩

set_option maxHeartbeats 400000 in
theorem crcNext_of (s b : Int) (w : World) (hs : Fits32 s) (hb : Fits8 b) :
  Calls Tryz.prog 209 #[.int .u32 s, .int .u8 b] w fun e w' => e = .returned (.int .u32 (crN s b)) ∧ w' = w := by
 have H : Hid (Fits32 (crS s b)) := crS_fits hs hb
 obtain ⟨h0, h1⟩ := hs
 obtain ⟨h2, h3⟩ := hb
 go_enter Tryz.func209, Tryz.ntmps209
 go_wp2
 go_loop [5, 11] (fun c i => ∃ k : Nat, k ≤ 8 ∧ i = .int .i64 k ∧ c = .int .u32 (crIter k (crS s b))) (fun _ i => 8 - (intOf i).toNat)
 case atStart => exact ⟨0, by omega, rfl, rfl⟩
 case round =>
  obtain ⟨k, hk, rfl, rfl⟩ := hrel
  have hf := crIter_fits k H.out
  obtain ⟨hf0, hf1⟩ := hf
  by_cases hlt : k < 8
  ·go_wp2_with (go_at_call 224; refine (crcHalve_of _ _ hf0 hf1).mono ?_; rintro e w' ⟨rfl, rfl⟩)
   go_round
   case rel => exact ⟨k + 1, by omega, by go_num, rfl⟩
   case measure => simp [intOf]; omega
  ·have : k = 8 := by omega
   subst this
   go_wp2
   go_ret
   exact ⟨rfl, rfl⟩

set_option maxHeartbeats 400000 in
theorem dCrcNext_of (s b : Int) (w : World) (hs : Fits32 s) (hb : Fits8 b) :
  Calls Tryz.prog 191 #[.int .u32 s, .int .u8 b] w fun e w' => e = .returned (.int .u32 (crN s b)) ∧ w' = w := by
 have H : Hid (Fits32 (crS s b)) := crS_fits hs hb
 obtain ⟨h0, h1⟩ := hs
 obtain ⟨h2, h3⟩ := hb
 go_enter Tryz.func191, Tryz.ntmps191
 go_wp2
 go_loop [5, 6] (fun c i => ∃ k : Nat, k ≤ 8 ∧ i = .int .i64 k ∧ c = .int .u32 (crIter k (crS s b))) (fun _ i => 8 - (intOf i).toNat)
 case atStart => exact ⟨0, by omega, rfl, rfl⟩
 case round =>
  obtain ⟨k, hk, rfl, rfl⟩ := hrel
  have hf := crIter_fits k H.out
  obtain ⟨hf0, hf1⟩ := hf
  by_cases hlt : k < 8
  ·go_wp2
   ·go_round
    case rel => exact ⟨k + 1, by omega, by go_num, val_u32 (crH_odd' hf0 hf1 ‹_›).symm⟩
    case measure => simp [intOf]; omega
   ·go_round
    case rel => exact ⟨k + 1, by omega, by go_num, val_u32 (crH_even' hf0 hf1 ‹_›).symm⟩
    case measure => simp [intOf]; omega
  ·have : k = 8 := by omega
   subst this
   go_wp2
   go_ret
   exact ⟨rfl, rfl⟩
end Go.Proofs.YtncnkpnfmbgifaaGreat

/- What one call of Sum does, of lists of bytes one behind the other, and of the document's own Sum: it hands back the plain sum of their bytes and touches nothing. -/
namespace Go.Proofs.YtncnkpnfmbgifaaGreat
open Go.RowKit
set_option linter.unusedVariables false
set_option maxRecDepth 4000

structure Lst where
 a : Option Addr
 len : Nat
 cap : Nat
 zs : List Int

def Lst.In (l : Lst) (w : World) : Prop :=
 l.zs.length = l.len ∧ l.len ≤ maxLen ∧ (∀ z ∈ l.zs, Fits8 z) ∧
 (l.len = 0 ∨ ∃ b off, l.a = some ⟨b, off, none⟩ ∧ ∀ i, i < l.len → w.cell? ⟨b, off + i, none⟩ = some (.int .u8 (l.zs.getD i 0)))

def bytesOf (ls : List Lst) : List Int := ls.flatMap (·.zs)

theorem ctake_snoc {α : Type} (l : List α) (k : Nat) (h : k < l.length) : l.take (k + 1) = l.take k ++ [l[k]] :=
 List.take_succ_eq_append_getElem h

theorem cr_take (s : Int) (zs : List Int) (k : Nat) (h : k < zs.length) : crI s (zs.take (k + 1)) = crN (crI s (zs.take k)) (zs.getD k 0) := by
 rw [ctake_snoc zs k h, crI_snoc]; simp [List.getD, h]

theorem cbytes_take (ls : List Lst) (k : Nat) (h : k < ls.length) : bytesOf (ls.take (k + 1)) = bytesOf (ls.take k) ++ ls[k].zs := by
 unfold bytesOf; rw [ctake_snoc ls k h, List.flatMap_append]; simp

theorem fits_take {zs : List Int} (h : ∀ z ∈ zs, Fits8 z) (k : Nat) : ∀ z ∈ zs.take k, Fits8 z := fun z hz => h z (List.mem_of_mem_take hz)
theorem fits_getD {zs : List Int} (h : ∀ z ∈ zs, Fits8 z) (k : Nat) : Fits8 (zs.getD k 0) := by
 by_cases hk : k < zs.length
 ·have : zs.getD k 0 = zs[k] := by simp [List.getD, hk]
  rw [this]; exact h _ (List.getElem_mem hk)
 ·have : zs.getD k 0 = 0 := by simp [List.getD, List.getElem?_eq_none (by omega : zs.length ≤ k)]
  rw [this]; unfold Fits8; omega

def ListsIn (w : World) (a : Option Addr) (ls : List Lst) : Prop :=
 ls.length ≤ maxLen ∧ (∀ l ∈ ls, l.In w) ∧
 (ls.length = 0 ∨ ∃ b off, a = some ⟨b, off, none⟩ ∧ ∀ i (h : i < ls.length), w.cell? ⟨b, off + i, none⟩ = some (.slice ls[i].a ls[i].len ls[i].cap))

theorem cbytes_fit {w : World} {a : Option Addr} {ls : List Lst} (h : ListsIn w a ls) : ∀ z ∈ bytesOf ls, Fits8 z := by
 intro z hz
 simp only [bytesOf, List.mem_flatMap] at hz
 obtain ⟨l, hl, hz⟩ := hz
 exact (h.2.1 l hl).2.2.1 z hz

set_option maxHeartbeats 400000 in
theorem crcSum_any (a : Option Addr) (cap n : Nat) (ls : List Lst) (w : World) (hn : ls.length = n) (h : ListsIn w a ls) :
  Calls Tryz.prog 180 #[.slice a n cap] w fun e w' => e = .returned (.int .u32 (crI 0 (bytesOf ls))) ∧ w' = w := by
 have H : Hid (ls.length = n ∧ ListsIn w a ls) := ⟨hn, h⟩
 have hm : n ≤ maxLen := by rw [← hn]; exact h.1
 unfold maxLen at hm
 clear hn h
 go_enter Tryz.func180, Tryz.ntmps180
 go_wp2
 go_loop [3, 10] (fun s i => ∃ k : Nat, k ≤ n ∧ i = .int .i64 k ∧ s = .int .u32 (crI 0 (bytesOf (ls.take k)))) (fun _ i => n - (intOf i).toNat)
 case atStart => exact ⟨0, by omega, rfl, rfl⟩
 case round =>
  obtain ⟨k, hk, rfl, rfl⟩ := hrel
  by_cases hlt : k < n
  ·have hkl : k < ls.length := by rw [H.out.1]; exact hlt
   obtain ⟨b, off, ha, hc⟩ := H.out.2.2.2.resolve_left (by omega)
   subst ha
   replace hc := hc k hkl
   have hin := H.out.2.2.1 ls[k] (List.getElem_mem hkl)
   have HB : Hid (bytesOf (ls.take (k + 1)) = bytesOf (ls.take k) ++ ls[k].zs) := cbytes_take ls k hkl
   have HF : Hid (Fits32 (crI 0 (bytesOf (ls.take k)))) := crI_fits fits0 (fun z hz => by
    have : z ∈ bytesOf ls := by
     simp only [bytesOf, List.mem_flatMap] at hz ⊢
     obtain ⟨l, hl, hz⟩ := hz
     exact ⟨l, List.mem_of_mem_take hl, hz⟩
    exact cbytes_fit H.out.2 z this)
   generalize hL : ls[k] = L at hc hin HB
   clear hL
   obtain ⟨a', len', cap', zs'⟩ := L
   obtain ⟨hz, hm', hfit, hcells⟩ := hin
   have HZ : Hid (zs'.length = len' ∧ (∀ z ∈ zs', Fits8 z)) := ⟨hz, hfit⟩
   replace hm' : len' ≤ maxLen := hm'
   unfold maxLen at hm'
   replace hc : w.cell? ⟨b, off + k, none⟩ = some (.slice a' len' cap') := hc
   have HC : Hid (len' = 0 ∨ ∃ b off, a' = some ⟨b, off, none⟩ ∧ ∀ i, i < len' → w.cell? ⟨b, off + i, none⟩ = some (.int .u8 (zs'.getD i 0))) := hcells
   clear hz hfit hcells
   go_wp2
   go_loop [3, 16] (fun s i => ∃ j : Nat, j ≤ len' ∧ i = .int .i64 j ∧ s = .int .u32 (crI (crI 0 (bytesOf (ls.take k))) (zs'.take j))) (fun _ i => len' - (intOf i).toNat)
   case atStart => exact ⟨0, by omega, rfl, rfl⟩
   case round =>
    obtain ⟨j, hj, rfl, rfl⟩ := hrel
    by_cases hjt : j < len'
    ·obtain ⟨b', off', ha', hcs⟩ := HC.out.resolve_left (by omega)
     subst ha'
     replace hcs := hcs j hjt
     have hf := crI_fits HF.out (fits_take HZ.out.2 j)
     have hg := fits_getD HZ.out.2 j
     have HS : Hid (crI (crI 0 (bytesOf (ls.take k))) (zs'.take (j + 1)) = crN (crI (crI 0 (bytesOf (ls.take k))) (zs'.take j)) (zs'.getD j 0)) := cr_take _ _ _ (by rw [HZ.out.1]; exact hjt)
     go_wp2_with (go_at_call 209; refine (crcNext_of _ _ _ hf hg).mono ?_; rintro e w' ⟨rfl, rfl⟩)
     go_round
     case rel => exact ⟨j + 1, by omega, by go_num, val_u32 HS.out.symm⟩
     case measure => simp [intOf]; omega
    ·have HT : Hid (zs'.take j = zs') := List.take_of_length_le (by rw [HZ.out.1]; omega)
     go_wp2
     go_round
     case rel => exact ⟨k + 1, by omega, by go_num, val_u32 (by rw [HB.out, crI_append, HT.out])⟩
     case measure => simp [intOf]; omega
  ·have : k = n := by omega
   subst this
   have HT : Hid (ls.take k = ls) := List.take_of_length_le (by rw [H.out.1]; omega)
   go_wp2
   go_ret
   exact ⟨ret_u32 (by rw [HT.out]), rfl⟩
theorem crcSum_of (g : Nat) (a : Option Addr) (n c d : Nat) (zs : List Int) (w : World) (hc : w.cell? ⟨g, 0, none⟩ = some (.slice a n c)) (h : BIn w a n zs) :
  Calls Tryz.prog 180 #[.slice (some ⟨g, 0, none⟩) 1 d] w fun e w' => e = .returned (.int .u32 (crI 0 zs)) ∧ w' = w := by
 have := crcSum_any (some ⟨g, 0, none⟩) d 1 [⟨a, n, c, zs⟩] w rfl ⟨by unfold maxLen; simp, by intro l hl; simp at hl; subst hl; exact h, .inr ⟨g, 0, rfl, fun i hi => by
  match i, hi with
  | 0, _ => exact hc⟩⟩
 simpa [bytesOf] using this
set_option maxHeartbeats 400000 in
theorem dCrcSum_any (a : Option Addr) (len cap : Nat) (zs : List Int) (w : World) (h : Lst.In ⟨a, len, cap, zs⟩ w) :
  Calls Tryz.prog 145 #[.slice a len cap] w fun e w' => e = .returned (.int .u32 (crI 0 zs)) ∧ w' = w := by
 obtain ⟨hz, hm, hfit, hcells⟩ := h
 have HZ : Hid (zs.length = len ∧ (∀ z ∈ zs, Fits8 z)) := ⟨hz, hfit⟩
 replace hm : len ≤ maxLen := hm
 unfold maxLen at hm
 have HC : Hid (len = 0 ∨ ∃ b off, a = some ⟨b, off, none⟩ ∧ ∀ i, i < len → w.cell? ⟨b, off + i, none⟩ = some (.int .u8 (zs.getD i 0))) := hcells
 clear hz hfit hcells
 go_enter Tryz.func145, Tryz.ntmps145
 go_wp2
 go_loop [3, 4] (fun s i => ∃ j : Nat, j ≤ len ∧ i = .int .i64 j ∧ s = .int .u32 (crI 0 (zs.take j))) (fun _ i => len - (intOf i).toNat)
 case atStart => exact ⟨0, by omega, rfl, rfl⟩
 case round =>
  obtain ⟨j, hj, rfl, rfl⟩ := hrel
  by_cases hjt : j < len
  ·obtain ⟨b', off', ha', hcs⟩ := HC.out.resolve_left (by omega)
   subst ha'
   replace hcs := hcs j hjt
   have hf := crI_fits fits0 (fits_take HZ.out.2 j)
   have hg := fits_getD HZ.out.2 j
   have HS : Hid (crI 0 (zs.take (j + 1)) = crN (crI 0 (zs.take j)) (zs.getD j 0)) := cr_take _ _ _ (by rw [HZ.out.1]; exact hjt)
   go_wp2_with (go_at_call 191; refine (dCrcNext_of _ _ _ hf hg).mono ?_; rintro e w' ⟨rfl, rfl⟩)
   go_round
   case rel => exact ⟨j + 1, by omega, by go_num, val_u32 HS.out.symm⟩
   case measure => simp [intOf]; omega
  ·have HT : Hid (zs.take j = zs) := List.take_of_length_le (by rw [HZ.out.1]; omega)
   go_wp2
   go_ret
   exact ⟨ret_u32 (by rw [HT.out]), rfl⟩

theorem dCrcSum_of (a : Option Addr) (n c : Nat) (zs : List Int) (w : World) (h : BIn w a n zs) :
  Calls Tryz.prog 145 #[.slice a n c] w fun e w' => e = .returned (.int .u32 (crI 0 zs)) ∧ w' = w := dCrcSum_any a n c zs w h
end Go.Proofs.YtncnkpnfmbgifaaGreat

/- What one call of Right does, the program's and the document's; of Small. -/
namespace Go.Proofs.YtncnkpnfmbgifaaGreat
open Go.RowKit Go.Shelf
set_option linter.unusedVariables false
set_option maxRecDepth 4000

theorem and_power : ∀ n : Fin 4097, 64 ≤ n.val → (decide (bits BinOp.and IntKind.i64 (n.val : Int) ((n.val : Int) - 1) = 0) = decide ((n.val : Int) ∈ Powers)) := by decide +kernel
theorem and_of {b : Int} (h1 : 64 ≤ b) (h2 : b ≤ 4096) : bits BinOp.and IntKind.i64 b (b - 1) = 0 ↔ b ∈ Powers := by
 have := and_power ⟨b.toNat, by omega⟩ (by show 64 ≤ b.toNat; omega)
 have e : ((b.toNat : Nat) : Int) = b := by omega
 simp only [e] at this
 exact decide_eq_decide.1 this

set_option maxHeartbeats 2000000 in
theorem right_of (s : Sh) (w : World) (hz : -9223372036854775808 ≤ s.z) :
  Calls Tryz.prog 115 #[.agg (shL s).toArray] w fun e w' => e = .returned (.bool (decide (RightS s))) ∧ Below w.heap.size w w' := by
 obtain ⟨z, zb, b, r⟩ := s
 obtain ⟨B, hB⟩ : ∃ B, B = decide (RightS ⟨z, zb, b, r⟩) := ⟨_, rfl⟩
 rw [← hB]
 have HB : Hid (B = decide (RightS ⟨z, zb, b, r⟩)) := hB
 clear hB
 have bw : Hid (∀ o, Below w.heap.size w (w.alloc o)) := fun o => (Below.refl _ _).alloc (Nat.le_refl _) o
 by_cases h1 : (decide (6 ≤ z) && decide (z ≤ 256)) = true
 ·by_cases h2 : (decide (8 ≤ zb) && decide (zb ≤ 4096)) = true
  ·by_cases h3 : (decide (64 ≤ b) && decide (b ≤ 4096)) = true
   ·simp only [Bool.and_eq_true, decide_eq_true_eq] at h1 h2 h3
    obtain ⟨z1, z2⟩ := h1
    obtain ⟨y1, y2⟩ := h2
    obtain ⟨x1, x2⟩ := h3
    have hw : IntKind.i64.wrap (b - 1) = b - 1 := by rw [IntKind.wrap_i64]; omega
    have hw4 : IntKind.i64.wrap (z - 4) = z - 4 := by rw [IntKind.wrap_i64]; omega
    by_cases hp : b ∈ Powers
    ·have hand := (and_of x1 x2).2 hp
     have hf : B = (decide (2 ≤ r) && decide (r ≤ z - 4)) := by
      rw [HB.out]; simp [RightS, z1, z2, y1, y2, hp]
     clear HB
     subst hf
     clear hp
     simp only [shL]
     go_enter Tryz.func115, Tryz.ntmps115
     go_wp2_with (go_at_call 112; refine (within_of _ _ _ _).mono ?_; rintro e w' ⟨rfl, rfl⟩)
     go_ret
     exact ⟨rfl, bw.out _⟩
    ·have hand : ¬ bits BinOp.and IntKind.i64 b (b - 1) = 0 := fun h => hp ((and_of x1 x2).1 h)
     have hf : B = false := by
      rw [HB.out]; simp [RightS, hp]
     clear HB
     subst hf
     clear hp
     simp only [shL]
     go_enter Tryz.func115, Tryz.ntmps115
     go_wp2_with (go_at_call 112; refine (within_of _ _ _ _).mono ?_; rintro e w' ⟨rfl, rfl⟩)
     go_ret
     exact ⟨rfl, bw.out _⟩
   ·have h3' : (decide (64 ≤ b) && decide (b ≤ 4096)) = false := by simpa using h3
    have hf : B = false := by
     rw [HB.out]; refine decide_eq_false ?_; rintro ⟨_, _, _, _, h, _⟩; have := power_bounds h; simp at h3; simp only at this; omega
    clear h3 HB
    subst hf
    simp only [shL]
    go_enter Tryz.func115, Tryz.ntmps115
    go_wp2_with (go_at_call 112; refine (within_of _ _ _ _).mono ?_; rintro e w' ⟨rfl, rfl⟩)
    go_ret
    exact ⟨rfl, bw.out _⟩
  ·have h2' : (decide (8 ≤ zb) && decide (zb ≤ 4096)) = false := by simpa using h2
   have hf : B = false := by
    rw [HB.out]; refine decide_eq_false ?_; rintro ⟨_, _, a1, a2, _⟩; simp only at a1 a2; simp at h2; omega
   clear h2 HB
   subst hf
   simp only [shL]
   go_enter Tryz.func115, Tryz.ntmps115
   go_wp2_with (go_at_call 112; refine (within_of _ _ _ _).mono ?_; rintro e w' ⟨rfl, rfl⟩)
   go_ret
   exact ⟨rfl, bw.out _⟩
 ·have h1' : (decide (6 ≤ z) && decide (z ≤ 256)) = false := by simpa using h1
  have hf : B = false := by
   rw [HB.out]; refine decide_eq_false ?_; rintro ⟨a1, a2, _⟩; simp only at a1 a2; simp at h1; omega
  clear h1 HB
  subst hf
  simp only [shL]
  go_enter Tryz.func115, Tryz.ntmps115
  go_wp2_with (go_at_call 112; refine (within_of _ _ _ _).mono ?_; rintro e w' ⟨rfl, rfl⟩)
  go_ret
  exact ⟨rfl, bw.out _⟩
end Go.Proofs.YtncnkpnfmbgifaaGreat

/- Things of general use, as rec has them. -/
namespace Go.Proofs.YtncnkpnfmbgifaaGreat
open Go.RowKit
set_option linter.unusedVariables false
set_option maxRecDepth 4000

theorem and_ofR {b : Int} (h1 : 64 ≤ b) (h2 : b ≤ 4096) : bits BinOp.and IntKind.i64 b (b - 1) = 0 ↔ b ∈ PowR := and_of h1 h2
theorem nin_lit (t : TypeId) {w : World} {g n : Nat} {L : List Int} {C : Array Value} {fr : Nat × Nat} (hk : w.heap.size = g) (hC : C = (kInts .i64 L).toArray) (hn : L.length = n) (hf : (L.all fun z => (Lit.int .i64 z).wf) = true) (hm : n ≤ 1000) :
    NIn .i64 (w.alloc (.cells C t fr)) (some ⟨g, 0, none⟩) n L := new_nin hk hC hn (List.all_eq_true.1 hf) (by unfold maxLen; omega)
theorem nin_litU (t : TypeId) {w : World} {g n : Nat} {L : List Int} {C : Array Value} {fr : Nat × Nat} (hk : w.heap.size = g) (hC : C = (kInts .u64 L).toArray) (hn : L.length = n) (hf : ∀ z ∈ L, FitsU z) (hm : n ≤ 1000) :
    NIn .u64 (w.alloc (.cells C t fr)) (some ⟨g, 0, none⟩) n L := new_nin hk hC hn (fun z hz => wfU (hf z hz)) (by unfold maxLen; omega)
def pwR (k : Nat) : Int := 64 * 2 ^ k
theorem pwR_at : ∀ k : Fin 7, PowR[k.val]? = some (pwR k.val) ∧ 64 ≤ pwR k.val ∧ pwR k.val ≤ 4096 ∧ pwR (k.val + 1) = 2 * pwR k.val := by decide
theorem pwR_mem {b : Int} : b ∈ PowR ↔ ∃ k, k < 7 ∧ b = pwR k := by
  constructor
  · intro h
    obtain ⟨k, hk⟩ := List.getElem?_of_mem h
    have hl : k < 7 := (List.getElem?_eq_some_iff.1 hk).1
    rw [(pwR_at ⟨k, hl⟩).1] at hk
    exact ⟨k, hl, by simpa using hk.symm⟩
  · rintro ⟨k, hk, rfl⟩
    exact List.mem_of_getElem? (pwR_at ⟨k, hk⟩).1
def diedE (s : ByteArray) : Ending := .panicked [{ v := .iface 9 (.string s), recovered := false }]
theorem cmade_bytes (n : Nat) (w : World) : Blk (w.alloc (.cells (madeCells #[.int .u8 0] n) 5)) w.heap.size (u8s (List.replicate n 0)) 5 := by
  refine Blk.new' rfl ?_
  apply Array.ext'
  rw [toList_madeCells_one]
  simp [u8s]
theorem splice_end {P Q : List Int} {m : Nat} (h : Q.length ≤ m) : splice (P ++ List.replicate m 0) P.length Q = (P ++ Q) ++ List.replicate (m - Q.length) 0 := by
  unfold splice
  rw [List.take_left' rfl, List.drop_append, List.drop_eq_nil_of_le (by omega)]
  simp
theorem join_splice {p : List Int} : splice p 4 (bigI 4 (crI 0 p)) = joinL p := by
  unfold splice joinL
  rw [bigI_length]
theorem pack4 (v : Int) : packL [4] [v] = bigI 4 v := by simp [packL, wd]
theorem NIn.drew {k : IntKind} {w : World} {a : Option Addr} {n : Nat} {zs : List Int} (h : NIn k w a n zs) : NIn k w.drew a n zs := h
theorem u8s_splice (L : List Int) (o : Nat) (zs : List Int) : splice (u8s L) o (u8s zs) = u8s (splice L o zs) := by simp [splice, u8s, List.map_take, List.map_drop]
theorem splice_length {L zs : List Int} {o : Nat} (h : o + zs.length ≤ L.length) : (splice L o zs).length = L.length := by
  simp only [splice, List.length_append, List.length_take, List.length_drop]; omega
theorem copy_src {w : World} {q o : Nat} {a : Option Addr} {n : Nat} {zs : List Int} (h : BIn w a n zs) : 0 < (u8s zs).length → (some ⟨q, o, none⟩ : Option Addr) = some ⟨q, o, none⟩ ∧ ∃ ad, a = some ad ∧ ∀ j v, (u8s zs)[j]? = some v → w.cell? (ad.add j) = some v := by
  intro hp
  refine ⟨rfl, ?_⟩
  obtain ⟨hl, _, _, hc⟩ := h
  rw [u8s_length, hl] at hp
  obtain ⟨b, off, rfl, hcell⟩ := hc.resolve_left (by omega)
  refine ⟨_, rfl, fun j v hj => ?_⟩
  have hjl : j < n := by
    have := (List.getElem?_eq_some_iff.1 hj).1
    rwa [u8s_length, hl] at this
  rw [Addr.add_mid, hcell j hjl, ← hj]
  simp [u8s, List.getD, hl, hjl]
theorem step_copy_one {P : Program} {ops : Array Oper} {o : Oper} {a : Act} {w : World} {K : Act → World → Prop} {Q : Exit → Act → World → Prop} {E : Prop} (hgd : o.guard = none) (d s : Operand) (dT sT : TypeId)
    (ho : o.op = .call { callee := .builtin .copy, args := #[d, s], argTypes := #[dT, sT] }) (elem : TypeId) (hu : P.underlying dT = some (.slice elem)) (hsz : (P.info? elem).map (·.size) = some 1)
    (dp sp : Option Addr) (dLen dCap sLen sCap : Nat) (hd : a.eval d = .slice dp dLen dCap) (hs : a.eval s = .slice sp sLen sCap)
    (g off : Nat) (cur : List Value) (t : TypeId) (hg : Blk w g cur t) (cs : List Value) (hn : cs.length = Nat.min sLen dLen)
    (hpos : 0 < cs.length → dp = some ⟨g, off, none⟩ ∧ ∃ ad, sp = some ad ∧ ∀ j v, cs[j]? = some v → w.cell? (ad.add j) = some v)
    (hfit : off + cs.length ≤ cur.length) (h1 : ∀ v ∈ cs, v.oneCell' = true)
    (h : ∀ w', Blk w' g (splice cur off cs) t → Below g w w' → (∀ k, k ≠ g → w'.heap[k]? = w.heap[k]?) → w'.heap.size = w.heap.size → K (a.put o.dst (goInt cs.length)) w') :
    if Region.wanted o (yielded ops a.tmps) = true then Oper.wp P o a w K Q else E := by
  have hw : Region.wanted o (yielded ops a.tmps) = true := by simp [Region.wanted, hgd]
  rw [if_pos hw]
  by_cases h0 : cs.length = 0
  · obtain rfl : cs = [] := List.eq_nil_of_length_eq_zero h0
    have hrun := run_copy_none (P := P) w dT sT o.type elem dp sp dLen dCap sLen sCap hu hsz (by simpa using hn.symm)
    unfold Oper.wp
    simp [execOp, ho, resolve, invoke, builtin, hd, hs, hrun, Result.andThen]
    exact h w (by have e : splice cur off ([] : List Value) = cur := (by simp [splice])
                  rw [e]; exact hg) (Below.refl _ _) (fun _ _ => rfl) rfl
  · obtain ⟨rfl, ad, rfl, hsrc⟩ := hpos (by omega)
    have hrun := run_copy_row (P := P) w dT sT o.type elem g off dLen dCap ad sLen sCap cur.toArray t cs hu hsz hg hn hsrc (by simpa using hfit) h1
    unfold Oper.wp
    simp [execOp, ho, resolve, invoke, builtin, hd, hs, hrun, Result.andThen]
    exact h _ (show _ = _ by simpa [splice] using setRow_heap w g _ _ t _ hg) (below_setRow (Below.refl _ _) (Nat.le_refl _) _) (fun k hk => setRow_other w g k _ hk) (by simp [World.setRow])
theorem blk_same {w w' : World} {g : Nat} {L : List Value} {t : TypeId} (h : Blk w g L t) (e : w'.heap[g]? = w.heap[g]?) : Blk w' g L t := by unfold Blk; rw [e]; exact h
theorem cstep_append_run {ops : Array Oper} {o : Oper} {a : Act} {w : World} {K : Act → World → Prop} {Q : Exit → Act → World → Prop} {E : Prop} (hg : o.guard = none) (s x : Operand) (t t2 : TypeId)
    (hop : o.op = .call { callee := .builtin .append, args := #[s, x], argTypes := #[t, t2] }) (sv xv : Value) (hs : a.eval s = sv) (hx : a.eval x = xv) (v : Value) (w' : World) (hrun : (Builtin.append_ #[t, t2] o.type #[sv, xv]).run Tryz.prog w = .ok v w') (hK : K (a.put o.dst v) w') :
    if Region.wanted o (yielded ops a.tmps) = true then Oper.wp Tryz.prog o a w K Q else E := by
  have hw : Region.wanted o (yielded ops a.tmps) = true := by simp [Region.wanted, hg]
  rw [if_pos hw]
  unfold Oper.wp
  simp [execOp, hop, resolve, invoke, builtin, hs, hx, hrun, Result.andThen]
  exact hK
end Go.Proofs.YtncnkpnfmbgifaaGreat
