/- For every three lists of bytes that can be handed in the law ShaStays returns true, and the lists read as they did. -/
import Derived.Test.YtjhbcknbbbbgkaaDoorRows
import Derived.Test.YtjhbcknbbbbgkaaDoorCards
import Derived.Test.YtjhbcknbbbbgkaaDoorTie
import Derived.Test.YtjhbcknbbbbgkaaDoorLaid
import Derived.Test.YtjhbcknbbbbgkaaDoorSame
import Derived.Test.YtjhbcknbbbbgkaaDoorApp
import Derived.Stop.Joined
import Derived.SevenTiedAt
import Derived.WalkKit
import Derived.ProofKit
import Derived.OpenShut
import Derived.ShutString
import Derived.ChangeOld
import Derived.Below
namespace Go.Proofs.YtjhbcknbbbbgkaaDoor.shaStays
open Go.ChangeShapes Go.WideShapes Go.ChangeAt Go.RowKit
open Go.ChangeMaps (open_string shut_string)
set_option linter.unusedVariables false


/-- WHAT THE WALK IS TOLD OF A SLICE OF INTEGERS THAT CAME IN: it is nil; or it leads to a row of 'cap' cells, the numbers 'zs' (the first 'len' are its elements, the rest its spare room), each fitting its kind. -/
def IsRow (k : IntKind) (w : World) (a : Option Addr) (len cap : Nat) (zs : List Int) : Prop :=
  (a = none ∧ len = 0 ∧ cap = 0 ∧ zs = []) ∨
  ∃ x, a = some x ∧ len ≤ cap ∧ cap ≤ maxLen ∧ zs.length = cap ∧ (∀ i, i < zs.length → w.cell? (x.add i) = some (.int k (zs.getD i 0))) ∧ ∀ n ∈ zs, (Lit.int k n).wf = true

/-- What stays while the statement's last row is reckoned. -/
def Rest (w : World) (q : Nat) (sh sg : St) (a0 a2 A : Option Addr) (n0 n2 n : Nat) (Z0 Z2 Z : List Int) (w' : World) : Prop :=
  Below w.heap.size w w' ∧ GIn w' ∧ HIn w' q sh ∧ HIn w' (q + 1) sg ∧ BIn w' a0 n0 Z0 ∧ BIn w' a2 n2 Z2 ∧ BIn w' A n Z
theorem Rest.drew {w : World} {q : Nat} {sh sg : St} {a0 a2 A : Option Addr} {n0 n2 n : Nat} {Z0 Z2 Z : List Int} {w' : World} (h : Rest w q sh sg a0 a2 A n0 n2 n Z0 Z2 Z w') : Rest w q sh sg a0 a2 A n0 n2 n Z0 Z2 Z w'.drew :=
  ⟨h.1.drew, h.2.1, h.2.2.1, h.2.2.2.1, h.2.2.2.2.1, h.2.2.2.2.2.1, h.2.2.2.2.2.2⟩
theorem Rest.below {w : World} {q : Nat} {sh sg : St} {a0 a2 A : Option Addr} {n0 n2 n : Nat} {Z0 Z2 Z : List Int} {w' w'' : World} (h : Rest w q sh sg a0 a2 A n0 n2 n Z0 Z2 Z w') (b : Below w'.heap.size w' w'') : Rest w q sh sg a0 a2 A n0 n2 n Z0 Z2 Z w'' :=
  ⟨h.1.trans (b.mono h.1.size), h.2.1.below b h.2.1.lt, h.2.2.1.below b h.2.2.1.1.lt, h.2.2.2.1.below b h.2.2.2.1.1.lt, h.2.2.2.2.1.below b, h.2.2.2.2.2.1.below b, h.2.2.2.2.2.2.below b⟩
theorem range_below {w' w'' : World} {b o : Nat} {cs : List Value} (h : w'.rangeAt b o cs) (hb : Below w'.heap.size w' w'') : w''.rangeAt b o cs := fun j v hv => by
  have := h j v hv
  rw [hb.cell (old_block this)]; exact this
theorem store_step {w v4 v5 V : World} {q : Nat} {s0 s2 : St} {D : List Int} (h4 : HIn v4 q s0) (g4 : HIn v4 (q + 1) s2) (bw4 : Below w.heap.size w v4) (b5 : Below v4.heap.size v4 v5) (hD : D.length = 32)
    (hV : (v5.alloc (.cells (u8s (List.replicate 32 0)).toArray 25)).setCells v5.heap.size 0 (u8s D) = V) :
    Blk V v5.heap.size (u8s D) 25 ∧ HIn V q s0 ∧ HIn V (q + 1) s2 ∧ Below w.heap.size w V ∧ Below v4.heap.size v4 V ∧ v4.heap.size ≤ v5.heap.size := by
  subst hV
  have l5 := b5.size
  have lh := h4.1.lt
  have lg := g4.1.lt
  have h5 := h4.below b5 lh
  have g5 := g4.below b5 lg
  have b6 : Below v4.heap.size v4 ((v5.alloc (.cells (u8s (List.replicate 32 0)).toArray 25)).setCells v5.heap.size 0 (u8s D)) := below_setCells (by omega) _ _ _ (b5.alloc (by omega) _)
  exact ⟨(Blk.new v5 _ _).setAll (by simp [u8s_length, hD]), ⟨(h5.1.alloc _).setCells_other (by omega) _ _, h5.2⟩, ⟨(g5.1.alloc _).setCells_other (by omega) _ _, g5.2⟩, bw4.trans (b6.mono bw4.size), b6, l5⟩
set_option maxHeartbeats 2000000 in
theorem walk (a0 : Option Addr) (len0 cap0 : Nat) (z0 : List Int) (a1 : Option Addr) (len1 cap1 : Nat) (z1 : List Int) (a2 : Option Addr) (len2 cap2 : Nat) (z2 : List Int) (w : World) (hG : GIn w) (w0 : IsRow .u8 w a0 len0 cap0 z0) (w1 : IsRow .u8 w a1 len1 cap1 z1) (w2 : IsRow .u8 w a2 len2 cap2 z2) :
    Calls Tryd.prog 5 #[.slice a0 len0 cap0, .slice a1 len1 cap1, .slice a2 len2 cap2] w fun e w' => e = .returned (.bool true) ∧ Below w.heap.size w w' := by
  obtain ⟨hB0, hc0, hn0⟩ := row_bin w0
  obtain ⟨hB1, hc1, hn1⟩ := row_bin w1
  obtain ⟨hB2, hc2, hn2⟩ := row_bin w2
  obtain ⟨Z0, hZ0⟩ : ∃ Z, Z = z0.take len0 := ⟨_, rfl⟩
  obtain ⟨Z1, hZ1⟩ : ∃ Z, Z = z1.take len1 := ⟨_, rfl⟩
  obtain ⟨Z2, hZ2⟩ : ∃ Z, Z = z2.take len2 := ⟨_, rfl⟩
  rw [← hZ0] at hB0; rw [← hZ1] at hB1; rw [← hZ2] at hB2
  have H : Hid (GIn w ∧ (BIn w a0 len0 Z0 ∧ len0 ≤ cap0 ∧ (a0 = none → len0 = 0 ∧ cap0 = 0)) ∧ (BIn w a1 len1 Z1 ∧ len1 ≤ cap1 ∧ (a1 = none → len1 = 0 ∧ cap1 = 0)) ∧ (BIn w a2 len2 Z2 ∧ len2 ≤ cap2)) := ⟨hG, ⟨hB0, hc0, hn0⟩, ⟨hB1, hc1, hn1⟩, hB2, hc2⟩
  clear hZ0 hZ1 hZ2 w0 w1 w2 hG hB0 hc0 hn0 hB1 hc1 hn1 hB2 hc2 hn2
  by_cases l0 : (1200 : Int) < len0
  · go_enter Tryd.func5, Tryd.ntmps5
    go_wp2_with (go_at_call 7; refine (known_any _ H.out.1).mono ?_; rintro e W ⟨rfl, b⟩)
    go_ret
    exact ⟨rfl, b⟩
  by_cases l1 : (1200 : Int) < len1
  · go_enter Tryd.func5, Tryd.ntmps5
    go_wp2_with (go_at_call 7; refine (known_any _ H.out.1).mono ?_; rintro e W ⟨rfl, b⟩)
    go_ret
    exact ⟨rfl, b⟩
  by_cases l2 : (1200 : Int) < len2
  · go_enter Tryd.func5, Tryd.ntmps5
    go_wp2_with (go_at_call 7; refine (known_any _ H.out.1).mono ?_; rintro e W ⟨rfl, b⟩)
    go_ret
    exact ⟨rfl, b⟩
  have HL : Hid (len0 ≤ 1200 ∧ len1 ≤ 1200 ∧ len2 ≤ 1200) := ⟨by omega, by omega, by omega⟩
  go_enter Tryd.func5, Tryd.ntmps5
  go_upto_region 3 with (go_at_call 7; refine (known_any _ H.out.1).mono ?_; rintro e W ⟨rfl, bW⟩)
  obtain ⟨q, hq⟩ : ∃ q, W.heap.size = q := ⟨_, rfl⟩
  have HQ : Hid (w.heap.size ≤ q ∧ W.heap.size = q ∧ 1 < q ∧ GIn W) := ⟨by have := bW.size; omega, hq, by have := bW.size; have := H.out.1.lt; omega, H.out.1.below bW H.out.1.lt⟩
  clear hq
  go_upto_region 4 with (go_at_call 10; refine (new_of W q HQ.out.2.1 HQ.out.2.2.2.1).mono ?_; rintro e v1 ⟨rfl, h1, b1, z1⟩)
  have bw1 : Below w.heap.size w v1 := bW.trans (b1.mono HQ.out.1)
  have HG1 : Hid (GIn v1) := H.out.1.below bw1 H.out.1.lt
  clear b1 bW
  go_upto_region 5 with (go_at_call 10; refine (new_of v1 (q + 1) z1 HG1.out.1).mono ?_; rintro e v2 ⟨rfl, g2, b2, z2⟩)
  have h2 := h1.below b2 (by omega)
  have bw2 : Below w.heap.size w v2 := bw1.trans (b2.mono (by have := HQ.out.1; omega))
  have HG2 : Hid (GIn v2) := H.out.1.below bw2 H.out.1.lt
  clear b2 z1 z2 h1 bw1
  go_upto_region 6 with (go_at_call 11; refine (write_of q len0 cap0 a0 Z0 st0 v2 h2 (H.out.2.1.1.lin bw2 HQ.out.1) HG2.out.2 (by have := HQ.out; omega) (by have := HL.out; show 0 + len0 < _; omega) H.out.2.1.2.1).mono ?_; rintro e v3 ⟨rfl, h3, o3⟩)
  have g3 := g2.only o3 (by omega)
  have bw3 : Below w.heap.size w v3 := bw2.trans (o3.below HQ.out.1 bw2.size)
  have HG3 : Hid (GIn v3) := H.out.1.below bw3 H.out.1.lt
  clear o3 h2 g2 bw2
  go_upto_region 7 with (go_at_call 11; refine (write_of (q + 1) len2 cap2 a2 Z2 st0 v3 g3 (H.out.2.2.2.1.lin bw3 (by have := HQ.out.1; omega)) HG3.out.2 (by have := HQ.out; omega) (by have := HL.out; show 0 + len2 < _; omega) H.out.2.2.2.2).mono ?_; rintro e v4 ⟨rfl, g4, o4⟩)
  have h4 := h3.only o4 (by omega)
  have bw4 : Below w.heap.size w v4 := bw3.trans (o4.below (by have := HQ.out.1; omega) bw3.size)
  have HG4 : Hid (GIn v4) := H.out.1.below bw4 H.out.1.lt
  clear o4 h3 g3 bw3
  obtain ⟨s0, hs0⟩ : ∃ s0, s0 = takeI st0 Z0 := ⟨_, rfl⟩
  obtain ⟨s2, hs2⟩ : ∃ s2, s2 = takeI st0 Z2 := ⟨_, rfl⟩
  rw [← hs0] at h4
  rw [← hs2] at g4
  have HS : Hid (s0 = takeI st0 Z0 ∧ s2 = takeI st0 Z2 ∧ s0.T = len0 ∧ s2.T = len2) := ⟨hs0, hs2, by rw [hs0, takeI_T, H.out.2.1.1.1]; show 0 + _ = _; omega, by rw [hs2, takeI_T, H.out.2.2.2.1.1]; show 0 + _ = _; omega⟩
  clear hs0 hs2
  have hin : (Tryd.prog.info? 25).map (·.size) = some (u8s (sumI s0)).length := by rw [u8s_length, sumI_length]; exact Tryd.info_digest
  go_upto_region 8 with (first
    | (go_at_call 12; refine (digest_of v4 q s0 h4 HG4.out.2 (by have := HQ.out; omega) (by rw [HS.out.2.2.1]; have := HL.out; omega)).mono ?_; rintro e v5 ⟨rfl, b5⟩)
    | (refine wpList_store_mid rfl 25 (.tmp 9) (.tmp 39) rfl v5.heap.size 0 (u8s (sumI s0)).toArray rfl rfl ((Blk.new' (L := u8s (List.replicate 32 0)) rfl (by kernel_rfl)).there 0 _ (by simp [u8s_length, sumI_length])) (by simpa using hin) (all_oneCell_toArray (u8s_one _)) ?_))
  generalize hV6 : World.setCells _ _ _ _ = v6
  obtain ⟨d6, h6, g6, bw6, b46, l45⟩ := store_step h4 g4 bw4 b5 (sumI_length s0) hV6
  obtain ⟨x, hx⟩ : ∃ x, x = v5.heap.size := ⟨_, rfl⟩
  rw [← hx] at d6 l45 ⊢
  have HX : Hid (q + 1 < x) := by have : q + 1 < x := by have := g4.1.lt; omega
                                  exact this
  have HG6 : Hid (GIn v6) := H.out.1.below bw6 H.out.1.lt
  clear hV6 hx b5 h4 g4 bw4 b46 l45
  go_upto_region 9 with (first
    | (go_at_call 12; refine (digest_of v6 q s0 h6 HG6.out.2 (by have := HQ.out; omega) (by rw [HS.out.2.2.1]; have := HL.out; omega)).mono ?_; rintro e v7 ⟨rfl, b7⟩)
    | (refine wpList_store_mid rfl 25 (.tmp 10) (.tmp 41) rfl v7.heap.size 0 (u8s (sumI s0)).toArray rfl rfl ((Blk.new' (L := u8s (List.replicate 32 0)) rfl (by kernel_rfl)).there 0 _ (by simp [u8s_length, sumI_length])) (by simpa using hin) (all_oneCell_toArray (u8s_one _)) ?_))
  generalize hV8 : World.setCells _ _ _ _ = v8
  obtain ⟨d8, h8, g8, bw8, b68, l67⟩ := store_step h6 g6 bw6 b7 (sumI_length s0) hV8
  have e8 := d6.below b68 d6.lt
  obtain ⟨y, hy⟩ : ∃ y, y = v7.heap.size := ⟨_, rfl⟩
  rw [← hy] at d8 l67 ⊢
  have HY : Hid (q + 1 < y) := by have : q + 1 < y := by have := g6.1.lt; omega
                                  exact this
  have HG8 : Hid (GIn v8) := H.out.1.below bw8 H.out.1.lt
  clear hV8 hy b7 h6 g6 bw6 b68 l67 d6
  go_upto_region 10 with (go_at_call 11; refine (write_of q len1 cap1 a1 Z1 s0 v8 h8 (H.out.2.2.1.1.lin bw8 HQ.out.1) HG8.out.2 (by have := HQ.out; omega) (by have := HL.out; rw [HS.out.2.2.1]; omega) H.out.2.2.1.2.1).mono ?_; rintro e v9 ⟨rfl, h9, o9⟩)
  have g9 := g8.only o9 (by omega)
  have d9 := d8.only o9 (by have := HY.out; omega)
  have e9 := e8.only o9 (by have := HX.out; omega)
  have bw9 : Below w.heap.size w v9 := bw8.trans (o9.below HQ.out.1 bw8.size)
  obtain ⟨sh, hsh⟩ : ∃ sh, sh = takeI s0 Z1 := ⟨_, rfl⟩
  rw [← hsh] at h9
  have HH : Hid (sh = takeI st0 (Z0 ++ Z1) ∧ sh.T = len0 + len1) := ⟨by rw [hsh, takeI_append, HS.out.1], by rw [hsh, takeI_T, HS.out.2.2.1, H.out.2.2.1.1.1]⟩
  clear o9 h8 g8 d8 e8 bw8 hsh
  go_upto_region 12 with (at_builtin; refine wpList_append_bin rfl (.tmp 45) (.tmp 46) rfl v9.heap.size none 0 0 [] rfl (World.ownsRow_nil _ _ _ _) a0 len0 cap0 Z0 rfl (H.out.2.1.1.below bw9) H.out.2.1.2.2 (by have := HL.out; omega) (Nat.le_refl _) ?_; intro A1 C1 u1 ow1 bu1; simp only [Nat.zero_add, List.nil_append] at ow1 ⊢)
  have bu1' : Below w.heap.size w u1 := bw9.trans (bu1.mono bw9.size)
  go_upto_region 13 with (at_builtin; refine wpList_append_bin rfl (.tmp 48) (.tmp 49) rfl v9.heap.size A1 len0 C1 Z0 rfl ow1 a1 len1 cap1 Z1 rfl (H.out.2.2.1.1.below bu1') H.out.2.2.1.2.2 (by have := HL.out; omega) bu1.size ?_; intro A C u2 ow2 bu2)
  have bv : Below v9.heap.size v9 u2 := bu1.trans bu2
  have HB : Hid (BIn u2 A (len0 + len1) (Z0 ++ Z1) ∧ len0 + len1 ≤ C) := by
    refine ⟨own_bin ow2 (by have := HL.out; unfold maxLen; omega) ?_, own_cap ow2⟩
    intro z hz
    rcases List.mem_append.1 hz with h | h
    · exact H.out.2.1.1.2.2.1 z h
    · exact H.out.2.2.1.1.2.2.1 z h
  have bwu : Below w.heap.size w u2 := bw9.trans (bv.mono bw9.size)
  have hR : Rest w q sh s2 a0 a2 A len0 len2 (len0 + len1) Z0 Z2 (Z0 ++ Z1) u2 :=
    ⟨bwu, H.out.1.below bwu H.out.1.lt, h9.below bv h9.1.lt, g9.below bv g9.1.lt, H.out.2.1.1.below bwu, H.out.2.2.2.1.below bwu, HB.out.1⟩
  have rx : u2.rangeAt x 0 (u8s (sumI s0)) := (e9.below bv e9.lt).whole
  have ry : u2.rangeAt y 0 (u8s (sumI s0)) := (d9.below bv d9.lt).whole
  have HN : Hid (len0 ≤ 1000000 ∧ len2 ≤ 1000000 ∧ len0 + len1 ≤ 1000000 ∧ len0 ≤ cap0 ∧ len2 ≤ cap2 ∧ len0 + len1 ≤ C ∧ 1 ≠ q ∧ 1 ≠ q + 1 ∧ sh.T + 80 < 1152921504606846976 ∧ s2.T + 80 < 1152921504606846976) :=
    ⟨by have := HL.out; omega, by have := HL.out; omega, by have := HL.out; omega, H.out.2.1.2.1, H.out.2.2.2.2, HB.out.2, by have := HQ.out; omega, by have := HQ.out; omega, by rw [HH.out.2]; have := HL.out; omega, by rw [HS.out.2.2.2]; have := HL.out; omega⟩
  clear bv ow2 ow1 bu1 bu2 bu1' bwu h9 g9 d9 e9 bw9
  have q0 := sum_same s0
  have q1 := sum_same sh
  have q2 := sum_same s2
  have hud := Tryd.underlying25
  have n2a : (0 : Int) ≤ len2 := by omega
  have n2b : (len2 : Int) ≤ 1200 := by have := HL.out; omega
  have n2c : IntKind.u64.wrap (len2 : Int) = len2 := by rw [IntKind.wrap_u64]; omega
  refine wp_region_held_drew (S := fun w' => w'.rangeAt x 0 (u8s (sumI s0)) ∧ w'.rangeAt y 0 (u8s (sumI s0)) ∧ Rest w q sh s2 a0 a2 A len0 len2 (len0 + len1) Z0 Z2 (Z0 ++ Z1) w') (by kernel_rfl) ⟨by simpa using rx, by simpa using ry, hR.drew⟩ (fun hS => ?_)
  clear rx ry hR
  refine wpAnyH_take (i := 0) (oi := { dst := some 51, op := Op.load 25 (Operand.tmp 9), type := 25, pos := "law.go:72", after := #[], guard := none }) (v := .agg (u8s (sumI s0)).toArray) rfl (by kernel_rfl) (by kernel_rfl) (by kernel_rfl) (fun _ _ _ h => h) (yieldsIf_load_mid (by rfl) 25 (.tmp 9) rfl x 0 rfl (u8s (sumI s0)) _ (fun w h => h.1) hud rfl hin) hS ?_
  simp only [Act.put, List.setIfInBounds_toArray, List.set_cons_zero, List.set_cons_succ]
  refine wpAnyH_take (i := 1) (oi := { dst := some 52, op := Op.load 25 (Operand.tmp 10), type := 25, pos := "law.go:72", after := #[], guard := none }) (v := .agg (u8s (sumI s0)).toArray) rfl (by kernel_rfl) (by kernel_rfl) (by kernel_rfl) (fun _ _ _ h => h) (yieldsIf_load_mid (by rfl) 25 (.tmp 10) rfl y 0 rfl (u8s (sumI s0)) _ (fun w h => h.2.1) hud rfl hin) hS ?_
  simp only [Act.put, List.setIfInBounds_toArray, List.set_cons_zero, List.set_cons_succ]
  refine wpAnyH_take (i := 2) (oi := { dst := some 53, op := Op.binOp BinOp.eql 25 (Operand.tmp 51) (Operand.tmp 52) 25, type := 4, pos := "law.go:72", after := #[{ on := 0, ground := Ground.data }, { on := 1, ground := Ground.data }], guard := none }) (v := .bool true) rfl (by kernel_rfl) (by kernel_rfl) (by kernel_rfl) (fun _ _ _ h => h) (Or.inl ⟨by rfl, fun w _ => by (go_simp; try with_reducible rfl)⟩) hS ?_
  simp only [Act.put, List.setIfInBounds_toArray, List.set_cons_zero, List.set_cons_succ]
  refine wpAnyH_take (i := 3) (oi := { dst := some 54, op := Op.move (Operand.tmp 53), type := 4, pos := "law.go:72", after := #[{ on := 2, ground := Ground.data }], guard := none }) (v := .bool true) rfl (by kernel_rfl) (by kernel_rfl) (by kernel_rfl) (fun _ _ _ h => h) (Or.inl ⟨by rfl, fun w _ => by (go_simp; try with_reducible rfl)⟩) hS ?_
  simp only [Act.put, List.setIfInBounds_toArray, List.set_cons_zero, List.set_cons_succ]
  refine wpAnyH_take (i := 4) (oi := { dst := some 55, op := Op.load 25 (Operand.tmp 9), type := 25, pos := "law.go:72", after := #[{ on := 3, ground := Ground.guard }], guard := some (3, true) }) (v := .agg (u8s (sumI s0)).toArray) rfl (by kernel_rfl) (by kernel_rfl) (by kernel_rfl) (fun _ _ _ h => h) (yieldsIf_load_mid (by rfl) 25 (.tmp 9) rfl x 0 rfl (u8s (sumI s0)) _ (fun w h => h.1) hud rfl hin) hS ?_
  simp only [Act.put, List.setIfInBounds_toArray, List.set_cons_zero, List.set_cons_succ]
  refine wpAnyH_take (i := 5) (oi := { dst := some 56, op := Op.move (Operand.tmp 0), type := 22, pos := "law.go:72", after := #[{ on := 3, ground := Ground.guard }], guard := some (3, true) }) (v := .slice a0 len0 cap0) rfl (by kernel_rfl) (by kernel_rfl) (by kernel_rfl) (fun _ _ _ h => h) (Or.inl ⟨by rfl, fun w _ => by (go_simp; try with_reducible rfl)⟩) hS ?_
  simp only [Act.put, List.setIfInBounds_toArray, List.set_cons_zero, List.set_cons_succ]
  refine wpAnyH_ready (rs := [6]) (by kernel_rfl) (by simp) (AllReadyH.cons (o := { dst := some 57, op := Op.call { callee := Callee.value (Operand.func 8), args := #[Operand.tmp 56], argTypes := #[22] }, type := 25, pos := "law.go:72", after := #[{ on := 5, ground := Ground.data }, { on := 3, ground := Ground.chain }, { on := 3, ground := Ground.guard }], guard := some (3, true) }) rfl (fun K hK => ?_) AllReadyH.nil)
  go_simp
  refine (sum_of a0 len0 cap0 Z0 _ hS.2.2.2.1 hS.2.2.2.2.2.2.1 HN.out.1 HN.out.2.2.2.1).mono ?_
  rintro e u ⟨rfl, bel⟩
  rw [← HS.out.1]
  refine hK.out _ _ ⟨range_below hS.1 bel, range_below hS.2.1 bel, hS.2.2.below bel⟩ (fun hS' => ?_)
  clear hK K bel hS
  have hS := hS'
  clear hS'
  refine wpAnyH_take (i := 7) (oi := { dst := some 58, op := Op.binOp BinOp.eql 25 (Operand.tmp 55) (Operand.tmp 57) 25, type := 4, pos := "law.go:72", after := #[{ on := 4, ground := Ground.data }, { on := 6, ground := Ground.data }, { on := 3, ground := Ground.guard }], guard := some (3, true) }) (v := .bool true) rfl (by kernel_rfl) (by kernel_rfl) (by kernel_rfl) (fun _ _ _ h => h) (Or.inl ⟨by rfl, fun w _ => by (go_simp; try with_reducible rfl)⟩) hS ?_
  simp only [Act.put, List.setIfInBounds_toArray, List.set_cons_zero, List.set_cons_succ]
  refine wpAnyH_take (i := 8) (oi := { dst := some 59, op := Op.pick (Operand.tmp 54) (Operand.tmp 58) (Operand.const (Value.bool false)), type := 4, pos := "law.go:72", after := #[{ on := 3, ground := Ground.data }, { on := 7, ground := Ground.data }], guard := none }) (v := .bool true) rfl (by kernel_rfl) (by kernel_rfl) (by kernel_rfl) (fun _ _ _ h => h) (Or.inl ⟨by rfl, fun w _ => by (go_simp; try with_reducible rfl)⟩) hS ?_
  simp only [Act.put, List.setIfInBounds_toArray, List.set_cons_zero, List.set_cons_succ]
  refine wpAnyH_take (i := 9) (oi := { dst := some 60, op := Op.move (Operand.tmp 59), type := 4, pos := "law.go:72", after := #[{ on := 8, ground := Ground.data }, { on := 6, ground := Ground.chain }], guard := none }) (v := .bool true) rfl (by kernel_rfl) (by kernel_rfl) (by kernel_rfl) (fun _ _ _ h => h) (Or.inl ⟨by rfl, fun w _ => by (go_simp; try with_reducible rfl)⟩) hS ?_
  simp only [Act.put, List.setIfInBounds_toArray, List.set_cons_zero, List.set_cons_succ]
  refine wpAnyH_take (i := 10) (oi := { dst := some 61, op := Op.move (Operand.tmp 7), type := 29, pos := "law.go:72", after := #[{ on := 9, ground := Ground.guard }], guard := some (9, true) }) (v := .pointer (some ⟨q, 0, none⟩)) rfl (by kernel_rfl) (by kernel_rfl) (by kernel_rfl) (fun _ _ _ h => h) (Or.inl ⟨by rfl, fun w _ => by (go_simp; try with_reducible rfl)⟩) hS ?_
  simp only [Act.put, List.setIfInBounds_toArray, List.set_cons_zero, List.set_cons_succ]
  refine wpAnyH_take (i := 12) (oi := { dst := some 63, op := Op.move (Operand.tmp 11), type := 22, pos := "law.go:72", after := #[{ on := 9, ground := Ground.guard }], guard := some (9, true) }) (v := .slice A (len0 + len1) C) rfl (by kernel_rfl) (by kernel_rfl) (by kernel_rfl) (fun _ _ _ h => h) (Or.inl ⟨by rfl, fun w _ => by (go_simp; try with_reducible rfl)⟩) hS ?_
  simp only [Act.put, List.setIfInBounds_toArray, List.set_cons_zero, List.set_cons_succ]
  refine wpAnyH_ready (rs := [11]) (by kernel_rfl) (by simp) (AllReadyH.cons (o := { dst := some 62, op := Op.call { callee := Callee.value (Operand.func 12), args := #[Operand.tmp 61], argTypes := #[29] }, type := 25, pos := "law.go:72", after := #[{ on := 10, ground := Ground.data }, { on := 9, ground := Ground.chain }, { on := 9, ground := Ground.guard }], guard := some (9, true) }) rfl (fun K hK => ?_) AllReadyH.nil)
  go_simp
  refine (digest_of _ q sh hS.2.2.2.2.1 hS.2.2.2.1.2 HN.out.2.2.2.2.2.2.1 HN.out.2.2.2.2.2.2.2.2.1).mono ?_
  rintro e u ⟨rfl, bel⟩
  refine hK.out _ _ ⟨range_below hS.1 bel, range_below hS.2.1 bel, hS.2.2.below bel⟩ (fun hS' => ?_)
  clear hK K bel hS
  have hS := hS'
  clear hS'
  refine wpAnyH_ready (rs := [13]) (by kernel_rfl) (by simp) (AllReadyH.cons (o := { dst := some 64, op := Op.call { callee := Callee.value (Operand.func 8), args := #[Operand.tmp 63], argTypes := #[22] }, type := 25, pos := "law.go:72", after := #[{ on := 12, ground := Ground.data }, { on := 11, ground := Ground.chain }, { on := 9, ground := Ground.guard }], guard := some (9, true) }) rfl (fun K hK => ?_) AllReadyH.nil)
  go_simp
  refine (sum_of A (len0 + len1) C (Z0 ++ Z1) _ hS.2.2.2.1 hS.2.2.2.2.2.2.2.2 HN.out.2.2.1 HN.out.2.2.2.2.2.1).mono ?_
  rintro e u ⟨rfl, bel⟩
  rw [← HH.out.1]
  refine hK.out _ _ ⟨range_below hS.1 bel, range_below hS.2.1 bel, hS.2.2.below bel⟩ (fun hS' => ?_)
  clear hK K bel hS
  have hS := hS'
  clear hS'
  refine wpAnyH_take (i := 14) (oi := { dst := some 65, op := Op.binOp BinOp.eql 25 (Operand.tmp 62) (Operand.tmp 64) 25, type := 4, pos := "law.go:72", after := #[{ on := 11, ground := Ground.data }, { on := 13, ground := Ground.data }, { on := 9, ground := Ground.guard }], guard := some (9, true) }) (v := .bool true) rfl (by kernel_rfl) (by kernel_rfl) (by kernel_rfl) (fun _ _ _ h => h) (Or.inl ⟨by rfl, fun w _ => by (go_simp; try with_reducible rfl)⟩) hS ?_
  simp only [Act.put, List.setIfInBounds_toArray, List.set_cons_zero, List.set_cons_succ]
  refine wpAnyH_take (i := 15) (oi := { dst := some 66, op := Op.pick (Operand.tmp 60) (Operand.tmp 65) (Operand.const (Value.bool false)), type := 4, pos := "law.go:72", after := #[{ on := 9, ground := Ground.data }, { on := 14, ground := Ground.data }], guard := none }) (v := .bool true) rfl (by kernel_rfl) (by kernel_rfl) (by kernel_rfl) (fun _ _ _ h => h) (Or.inl ⟨by rfl, fun w _ => by (go_simp; try with_reducible rfl)⟩) hS ?_
  simp only [Act.put, List.setIfInBounds_toArray, List.set_cons_zero, List.set_cons_succ]
  refine wpAnyH_take (i := 16) (oi := { dst := some 67, op := Op.move (Operand.tmp 66), type := 4, pos := "law.go:72", after := #[{ on := 15, ground := Ground.data }, { on := 13, ground := Ground.chain }], guard := none }) (v := .bool true) rfl (by kernel_rfl) (by kernel_rfl) (by kernel_rfl) (fun _ _ _ h => h) (Or.inl ⟨by rfl, fun w _ => by (go_simp; try with_reducible rfl)⟩) hS ?_
  simp only [Act.put, List.setIfInBounds_toArray, List.set_cons_zero, List.set_cons_succ]
  refine wpAnyH_take (i := 17) (oi := { dst := some 68, op := Op.move (Operand.tmp 8), type := 29, pos := "law.go:72", after := #[{ on := 16, ground := Ground.guard }], guard := some (16, true) }) (v := .pointer (some ⟨q + 1, 0, none⟩)) rfl (by kernel_rfl) (by kernel_rfl) (by kernel_rfl) (fun _ _ _ h => h) (Or.inl ⟨by rfl, fun w _ => by (go_simp; try with_reducible rfl)⟩) hS ?_
  simp only [Act.put, List.setIfInBounds_toArray, List.set_cons_zero, List.set_cons_succ]
  refine wpAnyH_take (i := 19) (oi := { dst := some 70, op := Op.move (Operand.tmp 2), type := 22, pos := "law.go:72", after := #[{ on := 16, ground := Ground.guard }], guard := some (16, true) }) (v := .slice a2 len2 cap2) rfl (by kernel_rfl) (by kernel_rfl) (by kernel_rfl) (fun _ _ _ h => h) (Or.inl ⟨by rfl, fun w _ => by (go_simp; try with_reducible rfl)⟩) hS ?_
  simp only [Act.put, List.setIfInBounds_toArray, List.set_cons_zero, List.set_cons_succ]
  refine wpAnyH_ready (rs := [18]) (by kernel_rfl) (by simp) (AllReadyH.cons (o := { dst := some 69, op := Op.call { callee := Callee.value (Operand.func 12), args := #[Operand.tmp 68], argTypes := #[29] }, type := 25, pos := "law.go:72", after := #[{ on := 17, ground := Ground.data }, { on := 16, ground := Ground.chain }, { on := 16, ground := Ground.guard }], guard := some (16, true) }) rfl (fun K hK => ?_) AllReadyH.nil)
  go_simp
  refine (digest_of _ (q + 1) s2 hS.2.2.2.2.2.1 hS.2.2.2.1.2 HN.out.2.2.2.2.2.2.2.1 HN.out.2.2.2.2.2.2.2.2.2).mono ?_
  rintro e u ⟨rfl, bel⟩
  refine hK.out _ _ ⟨range_below hS.1 bel, range_below hS.2.1 bel, hS.2.2.below bel⟩ (fun hS' => ?_)
  clear hK K bel hS
  have hS := hS'
  clear hS'
  refine wpAnyH_ready (rs := [20]) (by kernel_rfl) (by simp) (AllReadyH.cons (o := { dst := some 71, op := Op.call { callee := Callee.value (Operand.func 8), args := #[Operand.tmp 70], argTypes := #[22] }, type := 25, pos := "law.go:72", after := #[{ on := 19, ground := Ground.data }, { on := 18, ground := Ground.chain }, { on := 16, ground := Ground.guard }], guard := some (16, true) }) rfl (fun K hK => ?_) AllReadyH.nil)
  go_simp
  refine (sum_of a2 len2 cap2 Z2 _ hS.2.2.2.1 hS.2.2.2.2.2.2.2.1 HN.out.2.1 HN.out.2.2.2.2.1).mono ?_
  rintro e u ⟨rfl, bel⟩
  rw [← HS.out.2.1]
  refine hK.out _ _ ⟨range_below hS.1 bel, range_below hS.2.1 bel, hS.2.2.below bel⟩ (fun hS' => ?_)
  clear hK K bel hS
  have hS := hS'
  clear hS'
  refine wpAnyH_take (i := 21) (oi := { dst := some 72, op := Op.binOp BinOp.eql 25 (Operand.tmp 69) (Operand.tmp 71) 25, type := 4, pos := "law.go:72", after := #[{ on := 18, ground := Ground.data }, { on := 20, ground := Ground.data }, { on := 16, ground := Ground.guard }], guard := some (16, true) }) (v := .bool true) rfl (by kernel_rfl) (by kernel_rfl) (by kernel_rfl) (fun _ _ _ h => h) (Or.inl ⟨by rfl, fun w _ => by (go_simp; try with_reducible rfl)⟩) hS ?_
  simp only [Act.put, List.setIfInBounds_toArray, List.set_cons_zero, List.set_cons_succ]
  refine wpAnyH_take (i := 22) (oi := { dst := some 73, op := Op.pick (Operand.tmp 67) (Operand.tmp 72) (Operand.const (Value.bool false)), type := 4, pos := "law.go:72", after := #[{ on := 16, ground := Ground.data }, { on := 21, ground := Ground.data }], guard := none }) (v := .bool true) rfl (by kernel_rfl) (by kernel_rfl) (by kernel_rfl) (fun _ _ _ h => h) (Or.inl ⟨by rfl, fun w _ => by (go_simp; try with_reducible rfl)⟩) hS ?_
  simp only [Act.put, List.setIfInBounds_toArray, List.set_cons_zero, List.set_cons_succ]
  refine wpAnyH_take (i := 23) (oi := { dst := some 74, op := Op.move (Operand.tmp 73), type := 4, pos := "law.go:72", after := #[{ on := 22, ground := Ground.data }, { on := 20, ground := Ground.chain }], guard := none }) (v := .bool true) rfl (by kernel_rfl) (by kernel_rfl) (by kernel_rfl) (fun _ _ _ h => h) (Or.inl ⟨by rfl, fun w _ => by (go_simp; try with_reducible rfl)⟩) hS ?_
  simp only [Act.put, List.setIfInBounds_toArray, List.set_cons_zero, List.set_cons_succ]
  refine wpAnyH_take (i := 24) (oi := { dst := some 75, op := Op.move (Operand.tmp 8), type := 29, pos := "law.go:72", after := #[{ on := 23, ground := Ground.guard }], guard := some (23, true) }) (v := .pointer (some ⟨q + 1, 0, none⟩)) rfl (by kernel_rfl) (by kernel_rfl) (by kernel_rfl) (fun _ _ _ h => h) (Or.inl ⟨by rfl, fun w _ => by (go_simp; try with_reducible rfl)⟩) hS ?_
  simp only [Act.put, List.setIfInBounds_toArray, List.set_cons_zero, List.set_cons_succ]
  refine wpAnyH_take (i := 26) (oi := { dst := some 77, op := Op.move (Operand.tmp 2), type := 22, pos := "law.go:72", after := #[{ on := 23, ground := Ground.guard }], guard := some (23, true) }) (v := .slice a2 len2 cap2) rfl (by kernel_rfl) (by kernel_rfl) (by kernel_rfl) (fun _ _ _ h => h) (Or.inl ⟨by rfl, fun w _ => by (go_simp; try with_reducible rfl)⟩) hS ?_
  simp only [Act.put, List.setIfInBounds_toArray, List.set_cons_zero, List.set_cons_succ]
  refine wpAnyH_take (i := 27) (oi := { dst := some 78, op := Op.call { callee := Callee.builtin Builtin.len, args := #[Operand.tmp 77], argTypes := #[22] }, type := 3, pos := "law.go:72", after := #[{ on := 26, ground := Ground.data }, { on := 23, ground := Ground.guard }], guard := some (23, true) }) (v := .int .i64 (len2 : Int)) rfl (by kernel_rfl) (by kernel_rfl) (by kernel_rfl) (fun _ _ _ h => h) (Or.inl ⟨by rfl, fun w _ => by (go_simp; try with_reducible rfl)⟩) hS ?_
  simp only [Act.put, List.setIfInBounds_toArray, List.set_cons_zero, List.set_cons_succ]
  refine wpAnyH_take (i := 28) (oi := { dst := some 79, op := Op.convert 3 33 (Operand.tmp 78), type := 33, pos := "law.go:72", after := #[{ on := 27, ground := Ground.data }, { on := 23, ground := Ground.guard }], guard := some (23, true) }) (v := .int .u64 (len2 : Int)) rfl (by kernel_rfl) (by kernel_rfl) (by kernel_rfl) (fun _ _ _ h => h) (Or.inl ⟨by rfl, fun w _ => by (go_simp; try with_reducible rfl)⟩) hS ?_
  simp only [Act.put, List.setIfInBounds_toArray, List.set_cons_zero, List.set_cons_succ]
  refine wpAnyH_ready (rs := [25]) (by kernel_rfl) (by simp) (AllReadyH.cons (o := { dst := some 76, op := Op.call { callee := Callee.value (Operand.func 13), args := #[Operand.tmp 75], argTypes := #[29] }, type := 33, pos := "law.go:72", after := #[{ on := 24, ground := Ground.data }, { on := 23, ground := Ground.chain }, { on := 23, ground := Ground.guard }], guard := some (23, true) }) rfl (fun K hK => ?_) AllReadyH.nil)
  go_simp
  refine (len_of _ (q + 1) s2 hS.2.2.2.2.2.1).mono ?_
  rintro e u ⟨rfl, rfl⟩
  rw [HS.out.2.2.2]
  refine hK.out _ _ hS (fun _ => ?_)
  clear hK K
  refine wpAnyH_take (i := 29) (oi := { dst := some 80, op := Op.binOp BinOp.eql 33 (Operand.tmp 76) (Operand.tmp 79) 33, type := 4, pos := "law.go:72", after := #[{ on := 25, ground := Ground.data }, { on := 28, ground := Ground.data }, { on := 23, ground := Ground.guard }], guard := some (23, true) }) (v := .bool true) rfl (by kernel_rfl) (by kernel_rfl) (by kernel_rfl) (fun _ _ _ h => h) (Or.inl ⟨by rfl, fun w _ => by (go_simp; try with_reducible rfl)⟩) hS ?_
  simp only [Act.put, List.setIfInBounds_toArray, List.set_cons_zero, List.set_cons_succ]
  refine wpAnyH_take (i := 30) (oi := { dst := some 81, op := Op.pick (Operand.tmp 74) (Operand.tmp 80) (Operand.const (Value.bool false)), type := 4, pos := "law.go:72", after := #[{ on := 23, ground := Ground.data }, { on := 29, ground := Ground.data }], guard := none }) (v := .bool true) rfl (by kernel_rfl) (by kernel_rfl) (by kernel_rfl) (fun _ _ _ h => h) (Or.inl ⟨by rfl, fun w _ => by (go_simp; try with_reducible rfl)⟩) hS ?_
  simp only [Act.put, List.setIfInBounds_toArray, List.set_cons_zero, List.set_cons_succ]
  refine wpAnyH_take (i := 31) (oi := { dst := some 6, op := Op.assign (Operand.tmp 81), type := 4, pos := "law.go:72", after := #[{ on := 30, ground := Ground.data }, { on := 25, ground := Ground.chain }, { on := 0, ground := Ground.phase }, { on := 1, ground := Ground.phase }, { on := 2, ground := Ground.phase }, { on := 3, ground := Ground.phase }, { on := 4, ground := Ground.phase }, { on := 5, ground := Ground.phase }, { on := 6, ground := Ground.phase }, { on := 7, ground := Ground.phase }, { on := 8, ground := Ground.phase }, { on := 9, ground := Ground.phase }, { on := 10, ground := Ground.phase }, { on := 11, ground := Ground.phase }, { on := 12, ground := Ground.phase }, { on := 13, ground := Ground.phase }, { on := 14, ground := Ground.phase }, { on := 15, ground := Ground.phase }, { on := 16, ground := Ground.phase }, { on := 17, ground := Ground.phase }, { on := 18, ground := Ground.phase }, { on := 19, ground := Ground.phase }, { on := 20, ground := Ground.phase }, { on := 21, ground := Ground.phase }, { on := 22, ground := Ground.phase }, { on := 23, ground := Ground.phase }, { on := 24, ground := Ground.phase }, { on := 25, ground := Ground.phase }, { on := 26, ground := Ground.phase }, { on := 27, ground := Ground.phase }, { on := 28, ground := Ground.phase }, { on := 29, ground := Ground.phase }, { on := 30, ground := Ground.phase }], guard := none }) (v := .bool true) rfl (by kernel_rfl) (by kernel_rfl) (by kernel_rfl) (fun _ _ _ h => h) (Or.inl ⟨by rfl, fun w _ => by (go_simp; try with_reducible rfl)⟩) hS ?_
  simp only [Act.put, List.setIfInBounds_toArray, List.set_cons_zero, List.set_cons_succ]
  refine wpAnyH_done (by kernel_rfl) ?_ _
  go_wp2
  go_ret
  exact ⟨rfl, hS.2.2.1⟩

set_option maxRecDepth 100000 in
theorem lifted (os : Os) (started : os.Started) (H : Type) (enc : TypeId × Value → H) :
    ReturnsInHanded {} Tryd.checked os 5 .any (fun w args => (Rows.shaStaysSpec.pre enc Tryd.prog Tryd.f5 [] false w args ∧ laidMetH Tryd.prog laid2 w) ∧ sizedMet enc Tryd.prog Tryd.f5 (OpenSpec.ofChange Rows.shaStaysSpec) false w args)
      (Rows.shaStaysSpec.post enc Tryd.prog Tryd.f5 false true false false) := by
  refine returnsInHanded_of_change_and (C := Tryd.checked) (X := fun w _ => laidMetH Tryd.prog laid2 w) (fun _ _ _ hh h => h.of_heap hh) own started (by kernel_rfl) Tryd.func5
    (ChangeSpec.witness_shaped (enc := enc) (C := Tryd.checked) (os := os) (X := fun w _ => laidMetH Tryd.prog laid2 w) false (World.doorLaid Tryd.prog 400 os) #[.slice none 0 0, .slice none 0 0, .slice none 0 0] 8 rfl (World.shaped_of_RefB (by kernel_rfl) (by kernel_rfl)) (by kernel_rfl) (by kernel_rfl) (by kernel_rfl) (door_met os _)) ?_
  intro W base args ds gs before hval0 hW hcnd _ hL _
  have hval : ∀ (j : Nat) t v, Tryd.f5.params[j]? = some t → args[j]? = some v → Value.okWide Tryd.prog W .any base t v := hval0
  have hW' := hW
  obtain ⟨p, q, hA0, hV, rfl, hfz, hnd⟩ := hW
  have hA : DataW.TrodAll enc Tryd.prog W 0 (fun _ => true) true Tryd.f5.params.toList args.toList ds p := hA0
  rw [Tryd.params5] at hA hval
  obtain ⟨v0, vs0, d0, ds0, p0, q0, hargs, rfl, rfl, h0, r0⟩ := trodAll_cons hA
  obtain ⟨v1, vs1, d1, ds1, p1, q1, rfl, rfl, rfl, h1, r1⟩ := trodAll_cons r0
  obtain ⟨v2, vs2, d2, ds2, p2, q2, rfl, rfl, rfl, h2, r2⟩ := trodAll_cons r1
  obtain ⟨rfl, rfl, rfl⟩ := trodAll_nil r2
  obtain rfl : args = #[v0, v1, v2] := by cases args; simp_all
  obtain ⟨rfl, rfl⟩ := trodVars_none hV
  obtain ⟨a0, len0, cap0, rfl⟩ := okWide_slice Tryd.underlying22 (hval 0 22 v0 rfl rfl)
  have k0 := h0
  have lt0 : ∀ x ∈ p0, x.block < W.heap.size := by obtain ⟨m, hm⟩ := k0; exact DataW.trod_lt m _ _ _ hm
  obtain ⟨z0, w0⟩ : ∃ zs, IsRow .u8 W a0 len0 cap0 zs := by
    obtain ⟨fuel, hf⟩ := h0
    rcases open_ints Tryd.underlying22 Tryd.underlying5 (by kernel_rfl) hf with ⟨hcs, _⟩ | ⟨x, l, c, zs, hcs, _, hl, hm, hz, _, hcell, hwz⟩
    · simp [Value.cells] at hcs
      obtain ⟨rfl, rfl, rfl⟩ := hcs
      exact ⟨[], .inl ⟨rfl, rfl, rfl, rfl⟩⟩
    · simp [Value.cells] at hcs
      obtain ⟨rfl, rfl, rfl⟩ := hcs
      exact ⟨zs, .inr ⟨_, rfl, hl, hm, by simpa using hz, hcell, hwz⟩⟩
  obtain ⟨a1, len1, cap1, rfl⟩ := okWide_slice Tryd.underlying22 (hval 1 22 v1 rfl rfl)
  have k1 := h1
  have lt1 : ∀ x ∈ p1, x.block < W.heap.size := by obtain ⟨m, hm⟩ := k1; exact DataW.trod_lt m _ _ _ hm
  obtain ⟨z1, w1⟩ : ∃ zs, IsRow .u8 W a1 len1 cap1 zs := by
    obtain ⟨fuel, hf⟩ := h1
    rcases open_ints Tryd.underlying22 Tryd.underlying5 (by kernel_rfl) hf with ⟨hcs, _⟩ | ⟨x, l, c, zs, hcs, _, hl, hm, hz, _, hcell, hwz⟩
    · simp [Value.cells] at hcs
      obtain ⟨rfl, rfl, rfl⟩ := hcs
      exact ⟨[], .inl ⟨rfl, rfl, rfl, rfl⟩⟩
    · simp [Value.cells] at hcs
      obtain ⟨rfl, rfl, rfl⟩ := hcs
      exact ⟨zs, .inr ⟨_, rfl, hl, hm, by simpa using hz, hcell, hwz⟩⟩
  obtain ⟨a2, len2, cap2, rfl⟩ := okWide_slice Tryd.underlying22 (hval 2 22 v2 rfl rfl)
  have k2 := h2
  have lt2 : ∀ x ∈ p2, x.block < W.heap.size := by obtain ⟨m, hm⟩ := k2; exact DataW.trod_lt m _ _ _ hm
  obtain ⟨z2, w2⟩ : ∃ zs, IsRow .u8 W a2 len2 cap2 zs := by
    obtain ⟨fuel, hf⟩ := h2
    rcases open_ints Tryd.underlying22 Tryd.underlying5 (by kernel_rfl) hf with ⟨hcs, _⟩ | ⟨x, l, c, zs, hcs, _, hl, hm, hz, _, hcell, hwz⟩
    · simp [Value.cells] at hcs
      obtain ⟨rfl, rfl, rfl⟩ := hcs
      exact ⟨[], .inl ⟨rfl, rfl, rfl, rfl⟩⟩
    · simp [Value.cells] at hcs
      obtain ⟨rfl, rfl, rfl⟩ := hcs
      exact ⟨zs, .inr ⟨_, rfl, hl, hm, by simpa using hz, hcell, hwz⟩⟩
  clear hA0 hval0
  refine (walk a0 len0 cap0 z0 a1 len1 cap1 z1 a2 len2 cap2 z2 W (of_laid hL) w0 w1 w2).mono fun e W' ⟨he, bel⟩ => ?_
  subst he
  exact ⟨_, rfl, _, _, _, [], _, [], hW', trodAll_mk1 (shut_bool Tryd.underlying4 _), (trodAll_cons_mk (Below.trod laidOut (by kernel_rfl) (of_decide_eq_true (by kernel_rfl)) k0 bel lt0) (trodAll_cons_mk (Below.trod laidOut (by kernel_rfl) (of_decide_eq_true (by kernel_rfl)) k1 bel lt1) (trodAll_cons_mk (Below.trod laidOut (by kernel_rfl) (of_decide_eq_true (by kernel_rfl)) k2 bel lt2) trodAll_mk0))), rfl, bel.frame _, fun h => by cases h⟩

theorem over : Rows.shaStaysRow.holds Tryd.pinned (OpenSpec.ofChange Rows.shaStaysSpec) :=
  OpenClaim.holds_of_wide 5 Tryd.f5 rfl rfl rfl rfl rfl rfl rfl ⟨rfl, rfl, rfl, rfl, rfl⟩ rfl rfl rfl rfl rfl (by kernel_rfl) Tryd.func5 (by kernel_rfl)
    (of_decide_eq_true (by kernel_rfl)) (by unfold Func.isWrapper; first | (rw [if_pos (by decide +kernel)]; kernel_rfl) | (rw [if_neg (by decide +kernel)]; exact ⟨rfl, rfl⟩))
    (fun os started H enc _ => lifted os started H enc)

theorem said : Rows.ShaStaysSaid := over
end Go.Proofs.YtjhbcknbbbbgkaaDoor.shaStays
namespace Go.Proofs.YtjhbcknbbbbgkaaDoor
/-- The tied card. -/
theorem shaStays_card : Rows.ShaStaysCardSaid :=
  Claim7.holds_tied_plain_at .later [] [.data, .data] true (true, "4a458099d0066d3635fa7948cc792fe0ce29d52b8a17ca1574f688b5700ba112") false
    shaStays.said (fun _ h => by cases h) (by kernel_rfl) (fun _ h => by cases h) shaStays_row_tie rfl ⟨rfl, rfl⟩ (by kernel_rfl) rfl
    (fun f fn hf hfn => by
      obtain rfl : f = 5 := Option.some.inj ((show Tryd.prog.funcNamed "coaming/coaminglaw02.ShaStays" = some 5 by kernel_rfl).symm.trans hf) |>.symm
      obtain rfl : fn = Tryd.f5 := (Option.some.inj (Tryd.func5.symm.trans hfn)).symm
      exact ⟨by kernel_rfl, fun j t ht => by
        rw [Tryd.params5] at ht
        have hm : t ∈ [22,22,22] := by simpa using Array.mem_of_getElem? ht
        have hall : ([22,22,22].all fun u => !Tryd.prog.wantsStandIn u) = true := by kernel_rfl
        exact (show Tryd.prog.wantsStandIn t = false by simpa using List.all_eq_true.1 hall t hm)⟩)
    (by kernel_rfl)
#print axioms shaStays_card
end Go.Proofs.YtjhbcknbbbbgkaaDoor
