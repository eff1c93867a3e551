/- Texts of this seat, one behind the other: WLaw, CNext, CSum, ZRight. -/
import Derived.Test.YteokhkoaieibmaaJ6
import Derived.Test.YteokhkoaieibmaaProg
import Derived.Test.YteokhkoaieibmaaJ1
import Derived.WalkKit
import Derived.WalkSpells
import Derived.WalkLawsBesides
import Derived.Test.YteokhkoaieibmaaJ4
/- What Take tells, for the laws: its lengths, that its numbers fit; one number at a time. -/
namespace Go.Proofs.Yteokhkoaieibmaa
open Go.RowKit
set_option linter.unusedVariables false
set_option maxRecDepth 4000

theorem takeV_len (xs ws : List Int) : (takeV xs ws).length ≤ ws.length := by
  unfold takeV
  split
  · rw [valL_length]; exact Nat.le_refl _
  · simp
theorem takeR_len (xs ws : List Int) : (takeR xs ws).length ≤ xs.length := by
  unfold takeR
  split
  · rw [List.length_drop]; omega
  · simp
theorem takeV_fits (xs ws : List Int) (h : ∀ z ∈ xs, Fits8 z) : ∀ v ∈ takeV xs ws, FitsU v := by
  unfold takeV
  split
  · exact valL_fits ws xs h
  · simp
theorem takeV_wf (xs ws : List Int) (h : ∀ z ∈ xs, Fits8 z) : ∀ v ∈ takeV xs ws, (Lit.int .u64 v).wf = true := fun v hv => wfU (takeV_fits xs ws h v hv)
theorem takeR_fits (xs ws : List Int) (h : ∀ z ∈ xs, Fits8 z) : ∀ z ∈ takeR xs ws, Fits8 z := by
  unfold takeR
  split
  · exact fun z hz => h z (List.mem_of_mem_drop hz)
  · simp
theorem Try.one_ints : ∀ w : World, (sizeOf (Try.prog.elem 85)).run Try.prog w = .ok 1 w := fun _ => by kernel_rfl
theorem Try.one_u64s : ∀ w : World, (sizeOf (Try.prog.elem 86)).run Try.prog w = .ok 1 w := fun _ => by kernel_rfl
/-- Packed in two lists, packed in one. -/
theorem pack_two (ws vs : List Int) (t : Nat) (h1 : t ≤ ws.length) (h2 : t ≤ vs.length) : packL (ws.take t) (vs.take t) ++ packL (ws.drop t) (vs.drop t) = packL ws vs := by
  rw [← packL_append _ _ _ _ (by rw [List.length_take, List.length_take]; omega), List.take_append_drop, List.take_append_drop]
/-- What is packed is taken, whatever stands behind; with a byte less it is not. -/
theorem back_yes (ws vs more : List Int) (h : ws.length ≤ vs.length) : offL ws ≤ (packL ws vs ++ more).length := by
  rw [List.length_append, packL_length ws vs h]; omega
theorem back_vals (ws vs more : List Int) (h : ws.length ≤ vs.length) (hf : ∀ v ∈ vs, FitsU v) : takeV (packL ws vs ++ more) ws = modL ws vs := by
  unfold takeV; rw [if_pos (back_yes ws vs more h), val_pack ws vs more h hf]
theorem back_rest (ws vs more : List Int) (h : ws.length ≤ vs.length) : takeR (packL ws vs ++ more) ws = more := by
  unfold takeR; rw [if_pos (back_yes ws vs more h), drop_pack ws vs more h]
theorem modL_length : ∀ (a c : List Int), a.length ≤ c.length → (modL a c).length = a.length := by
  intro a
  induction a with
  | nil => intro c _; cases c <;> rfl
  | cons x a ih =>
    intro c h
    cases c with
    | nil => simp at h
    | cons v c => simp only [modL, List.length_cons]; rw [ih c (by simpa using h)]
theorem modL_fits : ∀ (a c : List Int), (∀ v ∈ c, FitsU v) → ∀ z ∈ modL a c, (Lit.int .u64 z).wf = true := by
  intro a
  induction a with
  | nil => intro c _ z hz; cases c <;> simp [modL] at hz
  | cons x a ih =>
    intro c h z hz
    cases c with
    | nil => simp [modL] at hz
    | cons v c =>
      simp only [modL, List.mem_cons] at hz
      rcases hz with rfl | hz
      · refine wfU ?_
        have hp : (0 : Int) < 256 ^ wd x := Int.pow_pos (by decide)
        have h0 := Int.emod_nonneg v (Int.ne_of_gt hp)
        have h1 := Int.emod_lt_of_pos v hp
        have h2 : (256 : Int) ^ wd x ≤ 256 ^ 8 := by exact_mod_cast Nat.pow_le_pow_right (n := 256) (by decide) (wd_le x)
        have h3 : (256 : Int) ^ 8 = 18446744073709551616 := by decide
        unfold FitsU
        omega
      · exact ih c (fun y hy => h y (by simp [hy])) z hz
theorem wd_cases (x : Int) : wd x = 1 ∨ wd x = 2 ∨ wd x = 4 ∨ wd x = 8 := by unfold wd; split <;> (try split) <;> (try split) <;> omega
end Go.Proofs.Yteokhkoaieibmaa

/- What one call of halve, of Next and of the document's own Next does: it hands back the plain function's number and touches nothing. -/
namespace Go.Proofs.Yteokhkoaieibmaa
open Go.RowKit
set_option linter.unusedVariables false
set_option maxRecDepth 4000

theorem crH_odd {c : Int} (h : (bits .and .u32 c 1 == 1) = true) : crH c = bits .xor .u32 (c / 2) 3988292384 := if_pos h
theorem crH_even {c : Int} (h : (bits .and .u32 c 1 == 1) = false) : crH c = c / 2 := if_neg (by rw [h]; decide)
theorem and_one {c : Int} (h0 : 0 ≤ c) (h1 : c < 4294967296) : bits .and .u32 c 1 = c % 2 := by
  have := u32_and c 1 h0 h1 (by omega) (by omega)
  rw [this, show (1 : Int).toNat = 1 from rfl, nat_mask1]
  omega
theorem crH_odd' {c : Int} (h0 : 0 ≤ c) (h1 : c < 4294967296) (h : (c % 2 == 1) = true) : crH c = bits .xor .u32 (c / 2) 3988292384 := crH_odd (by rw [and_one h0 h1]; exact h)
theorem crH_even' {c : Int} (h0 : 0 ≤ c) (h1 : c < 4294967296) (h : (c % 2 == 1) = false) : crH c = c / 2 := crH_even (by rw [and_one h0 h1]; exact h)
theorem val_u32 {a b : Int} (h : a = b) : Value.int .u32 a = .int .u32 b := by rw [h]
theorem ret_u32 {a b : Int} (h : a = b) : Ending.returned (.int .u32 a) = .returned (.int .u32 b) := by rw [h]

set_option maxHeartbeats 400000 in
theorem crcHalve_of (c : Int) (w : World) (h0 : 0 ≤ c) (h1 : c < 4294967296) :
    Calls Try.prog 92 #[.int .u32 c] w fun e w' => e = .returned (.int .u32 (crH c)) ∧ w' = w := by
  go_enter Try.func92, Try.ntmps92
  go_wp2
  · go_ret
    exact ⟨ret_u32 (crH_odd ‹_›).symm, rfl⟩
  · go_ret
    exact ⟨ret_u32 (crH_even ‹_›).symm, rfl⟩

set_option maxHeartbeats 400000 in
theorem crcNext_of (s b : Int) (w : World) (hs : Fits32 s) (hb : Fits8 b) :
    Calls Try.prog 89 #[.int .u32 s, .int .u8 b] w fun e w' => e = .returned (.int .u32 (crN s b)) ∧ w' = w := by
  have H : Hid (Fits32 (crS s b)) := crS_fits hs hb
  obtain ⟨h0, h1⟩ := hs
  obtain ⟨h2, h3⟩ := hb
  go_enter Try.func89, Try.ntmps89
  go_wp2
  go_loop [5, 11] (fun c i => ∃ k : Nat, k ≤ 8 ∧ i = .int .i64 k ∧ c = .int .u32 (crIter k (crS s b))) (fun _ i => 8 - (intOf i).toNat)
  case atStart => exact ⟨0, by omega, rfl, rfl⟩
  case round =>
    obtain ⟨k, hk, rfl, rfl⟩ := hrel
    have hf := crIter_fits k H.out
    obtain ⟨hf0, hf1⟩ := hf
    by_cases hlt : k < 8
    · go_wp2_with (go_at_call 92; refine (crcHalve_of _ _ hf0 hf1).mono ?_; rintro e w' ⟨rfl, rfl⟩)
      go_round
      case rel => exact ⟨k + 1, by omega, by go_num, rfl⟩
      case measure => simp [intOf]; omega
    · have : k = 8 := by omega
      subst this
      go_wp2
      go_ret
      exact ⟨rfl, rfl⟩

set_option maxHeartbeats 400000 in
theorem dCrcNext_of (s b : Int) (w : World) (hs : Fits32 s) (hb : Fits8 b) :
    Calls Try.prog 70 #[.int .u32 s, .int .u8 b] w fun e w' => e = .returned (.int .u32 (crN s b)) ∧ w' = w := by
  have H : Hid (Fits32 (crS s b)) := crS_fits hs hb
  obtain ⟨h0, h1⟩ := hs
  obtain ⟨h2, h3⟩ := hb
  go_enter Try.func70, Try.ntmps70
  go_wp2
  go_loop [5, 6] (fun c i => ∃ k : Nat, k ≤ 8 ∧ i = .int .i64 k ∧ c = .int .u32 (crIter k (crS s b))) (fun _ i => 8 - (intOf i).toNat)
  case atStart => exact ⟨0, by omega, rfl, rfl⟩
  case round =>
    obtain ⟨k, hk, rfl, rfl⟩ := hrel
    have hf := crIter_fits k H.out
    obtain ⟨hf0, hf1⟩ := hf
    by_cases hlt : k < 8
    · go_wp2
      · go_round
        case rel => exact ⟨k + 1, by omega, by go_num, val_u32 (crH_odd' hf0 hf1 ‹_›).symm⟩
        case measure => simp [intOf]; omega
      · go_round
        case rel => exact ⟨k + 1, by omega, by go_num, val_u32 (crH_even' hf0 hf1 ‹_›).symm⟩
        case measure => simp [intOf]; omega
    · have : k = 8 := by omega
      subst this
      go_wp2
      go_ret
      exact ⟨rfl, rfl⟩
end Go.Proofs.Yteokhkoaieibmaa

/- What one call of Sum does, of lists of bytes one behind the other, and of the document's own Sum: it hands back the plain sum of their bytes and touches nothing. -/
namespace Go.Proofs.Yteokhkoaieibmaa
open Go.RowKit
set_option linter.unusedVariables false
set_option maxRecDepth 4000

/-- A list of bytes as it lies in memory: its address, length and room, and its bytes. -/
structure Lst where
  a : Option Addr
  len : Nat
  cap : Nat
  zs : List Int

/-- It lies in the world: so many bytes, each in its cell. -/
def Lst.In (l : Lst) (w : World) : Prop :=
  l.zs.length = l.len ∧ l.len ≤ maxLen ∧ (∀ z ∈ l.zs, Fits8 z) ∧
  (l.len = 0 ∨ ∃ b off, l.a = some ⟨b, off, none⟩ ∧ ∀ i, i < l.len → w.cell? ⟨b, off + i, none⟩ = some (.int .u8 (l.zs.getD i 0)))

def bytesOf (ls : List Lst) : List Int := ls.flatMap (·.zs)

theorem ctake_snoc {α : Type} (l : List α) (k : Nat) (h : k < l.length) : l.take (k + 1) = l.take k ++ [l[k]] :=
  List.take_succ_eq_append_getElem h

theorem cr_take (s : Int) (zs : List Int) (k : Nat) (h : k < zs.length) : crI s (zs.take (k + 1)) = crN (crI s (zs.take k)) (zs.getD k 0) := by
  rw [ctake_snoc zs k h, crI_snoc]; simp [List.getD, h]

theorem cbytes_take (ls : List Lst) (k : Nat) (h : k < ls.length) : bytesOf (ls.take (k + 1)) = bytesOf (ls.take k) ++ ls[k].zs := by
  unfold bytesOf; rw [ctake_snoc ls k h, List.flatMap_append]; simp

theorem fits_take {zs : List Int} (h : ∀ z ∈ zs, Fits8 z) (k : Nat) : ∀ z ∈ zs.take k, Fits8 z := fun z hz => h z (List.mem_of_mem_take hz)
theorem fits_getD {zs : List Int} (h : ∀ z ∈ zs, Fits8 z) (k : Nat) : Fits8 (zs.getD k 0) := by
  by_cases hk : k < zs.length
  · have : zs.getD k 0 = zs[k] := by simp [List.getD, hk]
    rw [this]; exact h _ (List.getElem_mem hk)
  · have : zs.getD k 0 = 0 := by simp [List.getD, List.getElem?_eq_none (by omega : zs.length ≤ k)]
    rw [this]; unfold Fits8; omega

/-- Lists that lie in the world one behind the other in cells. -/
def ListsIn (w : World) (a : Option Addr) (ls : List Lst) : Prop :=
  ls.length ≤ maxLen ∧ (∀ l ∈ ls, l.In w) ∧
  (ls.length = 0 ∨ ∃ b off, a = some ⟨b, off, none⟩ ∧ ∀ i (h : i < ls.length), w.cell? ⟨b, off + i, none⟩ = some (.slice ls[i].a ls[i].len ls[i].cap))

theorem cbytes_fit {w : World} {a : Option Addr} {ls : List Lst} (h : ListsIn w a ls) : ∀ z ∈ bytesOf ls, Fits8 z := by
  intro z hz
  simp only [bytesOf, List.mem_flatMap] at hz
  obtain ⟨l, hl, hz⟩ := hz
  exact (h.2.1 l hl).2.2.1 z hz

set_option maxHeartbeats 400000 in
theorem crcSum_any (a : Option Addr) (cap n : Nat) (ls : List Lst) (w : World) (hn : ls.length = n) (h : ListsIn w a ls) :
    Calls Try.prog 83 #[.slice a n cap] w fun e w' => e = .returned (.int .u32 (crI 0 (bytesOf ls))) ∧ w' = w := by
  have H : Hid (ls.length = n ∧ ListsIn w a ls) := ⟨hn, h⟩
  have hm : n ≤ maxLen := by rw [← hn]; exact h.1
  unfold maxLen at hm
  clear hn h
  go_enter Try.func83, Try.ntmps83
  go_wp2
  go_loop [3, 10] (fun s i => ∃ k : Nat, k ≤ n ∧ i = .int .i64 k ∧ s = .int .u32 (crI 0 (bytesOf (ls.take k)))) (fun _ i => n - (intOf i).toNat)
  case atStart => exact ⟨0, by omega, rfl, rfl⟩
  case round =>
    obtain ⟨k, hk, rfl, rfl⟩ := hrel
    by_cases hlt : k < n
    · have hkl : k < ls.length := by rw [H.out.1]; exact hlt
      obtain ⟨b, off, ha, hc⟩ := H.out.2.2.2.resolve_left (by omega)
      subst ha
      replace hc := hc k hkl
      have hin := H.out.2.2.1 ls[k] (List.getElem_mem hkl)
      have HB : Hid (bytesOf (ls.take (k + 1)) = bytesOf (ls.take k) ++ ls[k].zs) := cbytes_take ls k hkl
      have HF : Hid (Fits32 (crI 0 (bytesOf (ls.take k)))) := crI_fits fits0 (fun z hz => by
        have : z ∈ bytesOf ls := by
          simp only [bytesOf, List.mem_flatMap] at hz ⊢
          obtain ⟨l, hl, hz⟩ := hz
          exact ⟨l, List.mem_of_mem_take hl, hz⟩
        exact cbytes_fit H.out.2 z this)
      generalize hL : ls[k] = L at hc hin HB
      clear hL
      obtain ⟨a', len', cap', zs'⟩ := L
      obtain ⟨hz, hm', hfit, hcells⟩ := hin
      have HZ : Hid (zs'.length = len' ∧ (∀ z ∈ zs', Fits8 z)) := ⟨hz, hfit⟩
      replace hm' : len' ≤ maxLen := hm'
      unfold maxLen at hm'
      replace hc : w.cell? ⟨b, off + k, none⟩ = some (.slice a' len' cap') := hc
      have HC : Hid (len' = 0 ∨ ∃ b off, a' = some ⟨b, off, none⟩ ∧ ∀ i, i < len' → w.cell? ⟨b, off + i, none⟩ = some (.int .u8 (zs'.getD i 0))) := hcells
      clear hz hfit hcells
      go_wp2
      go_loop [3, 16] (fun s i => ∃ j : Nat, j ≤ len' ∧ i = .int .i64 j ∧ s = .int .u32 (crI (crI 0 (bytesOf (ls.take k))) (zs'.take j))) (fun _ i => len' - (intOf i).toNat)
      case atStart => exact ⟨0, by omega, rfl, rfl⟩
      case round =>
        obtain ⟨j, hj, rfl, rfl⟩ := hrel
        by_cases hjt : j < len'
        · obtain ⟨b', off', ha', hcs⟩ := HC.out.resolve_left (by omega)
          subst ha'
          replace hcs := hcs j hjt
          have hf := crI_fits HF.out (fits_take HZ.out.2 j)
          have hg := fits_getD HZ.out.2 j
          have HS : Hid (crI (crI 0 (bytesOf (ls.take k))) (zs'.take (j + 1)) = crN (crI (crI 0 (bytesOf (ls.take k))) (zs'.take j)) (zs'.getD j 0)) := cr_take _ _ _ (by rw [HZ.out.1]; exact hjt)
          go_wp2_with (go_at_call 89; refine (crcNext_of _ _ _ hf hg).mono ?_; rintro e w' ⟨rfl, rfl⟩)
          go_round
          case rel => exact ⟨j + 1, by omega, by go_num, val_u32 HS.out.symm⟩
          case measure => simp [intOf]; omega
        · have HT : Hid (zs'.take j = zs') := List.take_of_length_le (by rw [HZ.out.1]; omega)
          go_wp2
          go_round
          case rel => exact ⟨k + 1, by omega, by go_num, val_u32 (by rw [HB.out, crI_append, HT.out])⟩
          case measure => simp [intOf]; omega
    · have : k = n := by omega
      subst this
      have HT : Hid (ls.take k = ls) := List.take_of_length_le (by rw [H.out.1]; omega)
      go_wp2
      go_ret
      exact ⟨ret_u32 (by rw [HT.out]), rfl⟩
/-- One list, whose header lies in a cell. -/
theorem crcSum_of (g : Nat) (a : Option Addr) (n c d : Nat) (zs : List Int) (w : World) (hc : w.cell? ⟨g, 0, none⟩ = some (.slice a n c)) (h : BIn w a n zs) :
    Calls Try.prog 83 #[.slice (some ⟨g, 0, none⟩) 1 d] w fun e w' => e = .returned (.int .u32 (crI 0 zs)) ∧ w' = w := by
  have := crcSum_any (some ⟨g, 0, none⟩) d 1 [⟨a, n, c, zs⟩] w rfl ⟨by unfold maxLen; simp, by intro l hl; simp at hl; subst hl; exact h, .inr ⟨g, 0, rfl, fun i hi => by
    match i, hi with
    | 0, _ => exact hc⟩⟩
  simpa [bytesOf] using this
set_option maxHeartbeats 400000 in
theorem dCrcSum_any (a : Option Addr) (len cap : Nat) (zs : List Int) (w : World) (h : Lst.In ⟨a, len, cap, zs⟩ w) :
    Calls Try.prog 40 #[.slice a len cap] w fun e w' => e = .returned (.int .u32 (crI 0 zs)) ∧ w' = w := by
  obtain ⟨hz, hm, hfit, hcells⟩ := h
  have HZ : Hid (zs.length = len ∧ (∀ z ∈ zs, Fits8 z)) := ⟨hz, hfit⟩
  replace hm : len ≤ maxLen := hm
  unfold maxLen at hm
  have HC : Hid (len = 0 ∨ ∃ b off, a = some ⟨b, off, none⟩ ∧ ∀ i, i < len → w.cell? ⟨b, off + i, none⟩ = some (.int .u8 (zs.getD i 0))) := hcells
  clear hz hfit hcells
  go_enter Try.func40, Try.ntmps40
  go_wp2
  go_loop [3, 4] (fun s i => ∃ j : Nat, j ≤ len ∧ i = .int .i64 j ∧ s = .int .u32 (crI 0 (zs.take j))) (fun _ i => len - (intOf i).toNat)
  case atStart => exact ⟨0, by omega, rfl, rfl⟩
  case round =>
    obtain ⟨j, hj, rfl, rfl⟩ := hrel
    by_cases hjt : j < len
    · obtain ⟨b', off', ha', hcs⟩ := HC.out.resolve_left (by omega)
      subst ha'
      replace hcs := hcs j hjt
      have hf := crI_fits fits0 (fits_take HZ.out.2 j)
      have hg := fits_getD HZ.out.2 j
      have HS : Hid (crI 0 (zs.take (j + 1)) = crN (crI 0 (zs.take j)) (zs.getD j 0)) := cr_take _ _ _ (by rw [HZ.out.1]; exact hjt)
      go_wp2_with (go_at_call 70; refine (dCrcNext_of _ _ _ hf hg).mono ?_; rintro e w' ⟨rfl, rfl⟩)
      go_round
      case rel => exact ⟨j + 1, by omega, by go_num, val_u32 HS.out.symm⟩
      case measure => simp [intOf]; omega
    · have HT : Hid (zs.take j = zs) := List.take_of_length_le (by rw [HZ.out.1]; omega)
      go_wp2
      go_ret
      exact ⟨ret_u32 (by rw [HT.out]), rfl⟩

theorem dCrcSum_of (a : Option Addr) (n c : Nat) (zs : List Int) (w : World) (h : BIn w a n zs) :
    Calls Try.prog 40 #[.slice a n c] w fun e w' => e = .returned (.int .u32 (crI 0 zs)) ∧ w' = w := dCrcSum_any a n c zs w h
end Go.Proofs.Yteokhkoaieibmaa

/- What one call of Right does, the program's and the document's; of Small. -/
namespace Go.Proofs.Yteokhkoaieibmaa
open Go.RowKit Go.Shelf
set_option linter.unusedVariables false
set_option maxRecDepth 4000

theorem and_power : ∀ n : Fin 4097, 64 ≤ n.val → (decide (bits BinOp.and IntKind.i64 (n.val : Int) ((n.val : Int) - 1) = 0) = decide ((n.val : Int) ∈ Powers)) := by decide +kernel
theorem and_of {b : Int} (h1 : 64 ≤ b) (h2 : b ≤ 4096) : bits BinOp.and IntKind.i64 b (b - 1) = 0 ↔ b ∈ Powers := by
  have := and_power ⟨b.toNat, by omega⟩ (by show 64 ≤ b.toNat; omega)
  have e : ((b.toNat : Nat) : Int) = b := by omega
  simp only [e] at this
  exact decide_eq_decide.1 this

set_option maxHeartbeats 2000000 in
theorem right_of (s : Sh) (w : World) (hz : -9223372036854775808 ≤ s.z) :
    Calls Try.prog 59 #[.agg (shL s).toArray] w fun e w' => e = .returned (.bool (decide (RightS s))) ∧ Below w.heap.size w w' := by
  obtain ⟨z, zb, b, r⟩ := s
  obtain ⟨B, hB⟩ : ∃ B, B = decide (RightS ⟨z, zb, b, r⟩) := ⟨_, rfl⟩
  rw [← hB]
  have HB : Hid (B = decide (RightS ⟨z, zb, b, r⟩)) := hB
  clear hB
  have bw : Hid (∀ o, Below w.heap.size w (w.alloc o)) := fun o => (Below.refl _ _).alloc (Nat.le_refl _) o
  by_cases h1 : (decide (6 ≤ z) && decide (z ≤ 256)) = true
  · by_cases h2 : (decide (8 ≤ zb) && decide (zb ≤ 4096)) = true
    · by_cases h3 : (decide (64 ≤ b) && decide (b ≤ 4096)) = true
      · simp only [Bool.and_eq_true, decide_eq_true_eq] at h1 h2 h3
        obtain ⟨z1, z2⟩ := h1
        obtain ⟨y1, y2⟩ := h2
        obtain ⟨x1, x2⟩ := h3
        have hw : IntKind.i64.wrap (b - 1) = b - 1 := by rw [IntKind.wrap_i64]; omega
        have hw4 : IntKind.i64.wrap (z - 4) = z - 4 := by rw [IntKind.wrap_i64]; omega
        by_cases hp : b ∈ Powers
        · have hand := (and_of x1 x2).2 hp
          have hf : B = (decide (2 ≤ r) && decide (r ≤ z - 4)) := by
            rw [HB.out]; simp [RightS, z1, z2, y1, y2, hp]
          clear HB
          subst hf
          clear hp
          simp only [shL]
          go_enter Try.func59, Try.ntmps59
          go_wp2_with (go_at_call 62; refine (within_of _ _ _ _).mono ?_; rintro e w' ⟨rfl, rfl⟩)
          go_ret
          exact ⟨rfl, bw.out _⟩
        · have hand : ¬ bits BinOp.and IntKind.i64 b (b - 1) = 0 := fun h => hp ((and_of x1 x2).1 h)
          have hf : B = false := by
            rw [HB.out]; simp [RightS, hp]
          clear HB
          subst hf
          clear hp
          simp only [shL]
          go_enter Try.func59, Try.ntmps59
          go_wp2_with (go_at_call 62; refine (within_of _ _ _ _).mono ?_; rintro e w' ⟨rfl, rfl⟩)
          go_ret
          exact ⟨rfl, bw.out _⟩
      · have h3' : (decide (64 ≤ b) && decide (b ≤ 4096)) = false := by simpa using h3
        have hf : B = false := by
          rw [HB.out]; refine decide_eq_false ?_; rintro ⟨_, _, _, _, h, _⟩; have := power_bounds h; simp at h3; simp only at this; omega
        clear h3 HB
        subst hf
        simp only [shL]
        go_enter Try.func59, Try.ntmps59
        go_wp2_with (go_at_call 62; refine (within_of _ _ _ _).mono ?_; rintro e w' ⟨rfl, rfl⟩)
        go_ret
        exact ⟨rfl, bw.out _⟩
    · have h2' : (decide (8 ≤ zb) && decide (zb ≤ 4096)) = false := by simpa using h2
      have hf : B = false := by
        rw [HB.out]; refine decide_eq_false ?_; rintro ⟨_, _, a1, a2, _⟩; simp only at a1 a2; simp at h2; omega
      clear h2 HB
      subst hf
      simp only [shL]
      go_enter Try.func59, Try.ntmps59
      go_wp2_with (go_at_call 62; refine (within_of _ _ _ _).mono ?_; rintro e w' ⟨rfl, rfl⟩)
      go_ret
      exact ⟨rfl, bw.out _⟩
  · have h1' : (decide (6 ≤ z) && decide (z ≤ 256)) = false := by simpa using h1
    have hf : B = false := by
      rw [HB.out]; refine decide_eq_false ?_; rintro ⟨a1, a2, _⟩; simp only at a1 a2; simp at h1; omega
    clear h1 HB
    subst hf
    simp only [shL]
    go_enter Try.func59, Try.ntmps59
    go_wp2_with (go_at_call 62; refine (within_of _ _ _ _).mono ?_; rintro e w' ⟨rfl, rfl⟩)
    go_ret
    exact ⟨rfl, bw.out _⟩
end Go.Proofs.Yteokhkoaieibmaa
