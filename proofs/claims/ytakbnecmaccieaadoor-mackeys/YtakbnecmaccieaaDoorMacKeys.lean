/- For every two lists of bytes and every small number that can be handed in the law MacKeys returns true, and the lists read as they did. -/
import Derived.Test.YtakbnecmaccieaaDoorRows
import Derived.Test.YtakbnecmaccieaaDoorCards
import Derived.Test.YtakbnecmaccieaaDoorTie
import Derived.Test.YtakbnecmaccieaaDoorLaid
import Derived.Test.YtakbnecmaccieaaDoorFar
import Derived.Stop.Joined
import Derived.SevenTiedAt
import Derived.WalkKit
import Derived.ProofKit
import Derived.OpenShut
import Derived.ShutString
import Derived.ChangeOld
import Derived.Below
namespace Go.Proofs.YtakbnecmaccieaaDoor.macKeys
open Go.ChangeShapes Go.WideShapes Go.ChangeAt Go.RowKit
open Go.ChangeMaps (open_string shut_string)
set_option linter.unusedVariables false


/-- WHAT THE WALK IS TOLD OF A SLICE OF INTEGERS THAT CAME IN: it is nil; or it leads to a row of 'cap' cells, the numbers 'zs' (the first 'len' are its elements, the rest its spare room), each fitting its kind. -/
def IsRow (k : IntKind) (w : World) (a : Option Addr) (len cap : Nat) (zs : List Int) : Prop :=
  (a = none ∧ len = 0 ∧ cap = 0 ∧ zs = []) ∨
  ∃ x, a = some x ∧ len ≤ cap ∧ cap ≤ maxLen ∧ zs.length = cap ∧ (∀ i, i < zs.length → w.cell? (x.add i) = some (.int k (zs.getD i 0))) ∧ ∀ n ∈ zs, (Lit.int k n).wf = true

theorem fill_eq (zs : List Int) : fillI zs = zs ++ List.replicate (64 - zs.length) 0 := by simp [fillI, splice, -List.reduceReplicate]
theorem key_more {X : List Int} {j : Nat} (h : X.length + j ≤ 64) : keyI (X ++ List.replicate j 0) = keyI X := by
  unfold keyI
  have e1 : shortI X = X := by rw [shortI, if_neg (by omega)]
  have e2 : shortI (X ++ List.replicate j 0) = X ++ List.replicate j 0 := by rw [shortI, if_neg (by simp; omega)]
  rw [e1, e2, fill_eq, fill_eq, List.append_assoc, List.replicate_append_replicate]
  congr 2
  simp; omega
theorem key_long {X : List Int} (h : 64 < X.length) : keyI (sumI (takeI st0 X)) = keyI X := by
  unfold keyI
  have e1 : shortI X = sumI (takeI st0 X) := by rw [shortI, if_pos h]
  have e2 : shortI (sumI (takeI st0 X)) = sumI (takeI st0 X) := by rw [shortI, if_neg (by rw [sumI_length]; omega)]
  rw [e1, e2]
theorem of_key {X X' Y : List Int} (h : keyI X' = keyI X) : ofI X' Y = ofI X Y := by unfold ofI innerI; rw [h]
theorem join_one (Y : List Int) : joinN (fun _ => Y) 1 = Y := by simp [joinN]
theorem range_below {w w' : World} {b o : Nat} {cs : List Value} (h : w.rangeAt b o cs) (hb : Below w.heap.size w w') : w'.rangeAt b o cs := fun j v hv => by
  have := h j v hv
  rw [hb.cell (old_block this)]; exact this
/-- What the last rows hold fast. -/
def Rest (w : World) (a1 : Option Addr) (len1 : Nat) (Y : List Int) (A : Option Addr) (N : Nat) (K : List Int) (w' : World) : Prop :=
  GIn w' ∧ BIn w' a1 len1 Y ∧ BIn w' A N K ∧ Below w.heap.size w w'
theorem Rest.below {w w' w'' : World} {a1 A : Option Addr} {len1 N : Nat} {Y K : List Int} (h : Rest w a1 len1 Y A N K w') (hb : Below w'.heap.size w' w'') : Rest w a1 len1 Y A N K w'' :=
  ⟨h.1.below hb h.1.lt, h.2.1.below hb, h.2.2.1.below hb, h.2.2.2.trans (hb.mono h.2.2.2.size)⟩
set_option maxHeartbeats 2000000 in
theorem walk (a0 : Option Addr) (len0 cap0 : Nat) (z0 : List Int) (a1 : Option Addr) (len1 cap1 : Nat) (z1 : List Int) (a2 : Int) (w : World) (hG : GIn w) (w0 : IsRow .u8 w a0 len0 cap0 z0) (w1 : IsRow .u8 w a1 len1 cap1 z1) (w2 : (Lit.int .u8 a2).wf = true) :
    Calls Tryd.prog 5 #[.slice a0 len0 cap0, .slice a1 len1 cap1, .int .u8 a2] w fun e w' => e = .returned (.bool true) ∧ Below w.heap.size w w' := by
  obtain ⟨hB0, hc0, hnil0⟩ := row_bin w0
  obtain ⟨hB1, hc1, hnil1⟩ := row_bin w1
  obtain ⟨X, hX⟩ : ∃ X, X = z0.take len0 := ⟨_, rfl⟩
  obtain ⟨Y, hY⟩ : ∃ Y, Y = z1.take len1 := ⟨_, rfl⟩
  rw [← hX] at hB0
  rw [← hY] at hB1
  have bn := bounds_u8 w2
  have H : Hid (GIn w ∧ (BIn w a0 len0 X ∧ len0 ≤ cap0 ∧ (a0 = none → len0 = 0 ∧ cap0 = 0)) ∧ BIn w a1 len1 Y ∧ len1 ≤ cap1 ∧ (a1 = none → len1 = 0 ∧ cap1 = 0)) := ⟨hG, ⟨hB0, hc0, hnil0⟩, hB1, hc1, hnil1⟩
  clear hX hY w0 w1 w2 hG hB0 hB1 hc0 hc1 hnil0 hnil1
  by_cases l0 : (800 : Int) < len0
  · go_enter Tryd.func5, Tryd.ntmps5
    go_wp2_with (go_at_call 8; refine (mknown_any _ H.out.1).mono ?_; rintro e W ⟨rfl, b⟩)
    go_ret
    exact ⟨rfl, b⟩
  · have hl0 : (len0 : Int) ≤ 800 := by omega
    by_cases l1 : (800 : Int) < len1
    · go_enter Tryd.func5, Tryd.ntmps5
      go_wp2_with (go_at_call 8; refine (mknown_any _ H.out.1).mono ?_; rintro e W ⟨rfl, b⟩)
      go_ret
      exact ⟨rfl, b⟩
    · have hl1 : (len1 : Int) ≤ 800 := by omega
      have HN : Hid (len0 ≤ 800 ∧ len1 ≤ 800 ∧ ∀ r, r < 1 → ((fun _ => Y : Nat → List Int) r).length ≤ 1000000) := ⟨by omega, by omega, fun r _ => by show Y.length ≤ _; rw [H.out.2.2.1.1]; omega⟩
      obtain ⟨D, hD⟩ : ∃ D, D = ofI X Y := ⟨_, rfl⟩
      have HD : Hid (D = ofI X Y ∧ D.length = 32) := ⟨hD, by rw [hD, ofI_length]⟩
      have hin : (Tryd.prog.info? 25).map (·.size) = some (u8s D).length := by rw [u8s_length, HD.out.2]; exact Tryd.info_digest
      have hes := fun w => eq_same D HD.out.2 w
      have hud := Tryd.underlying25
      clear hD
      go_enter Tryd.func5, Tryd.ntmps5
      go_upto_region 3 with (go_at_call 8; refine (mknown_any _ H.out.1).mono ?_; rintro e W ⟨rfl, bW⟩)
      have HG : Hid (GIn W ∧ BIn W a0 len0 X ∧ BIn W a1 len1 Y) := ⟨H.out.1.below bW H.out.1.lt, H.out.2.1.1.below bW, H.out.2.2.1.below bW⟩
      go_upto_region 4 with (first
        | (go_at_call 9; refine (of_of a0 len0 cap0 X (some ⟨W.heap.size, 0, none⟩) 1 1 (fun _ => Y) _ (HG.out.1.alloc _) (HG.out.2.1.alloc _) (by have := HN.out.1; omega) H.out.2.1.2.1 (one_ps rfl HG.out.2.2 H.out.2.2.2.1 H.out.2.2.2.2) (by omega) HN.out.2.2).mono ?_; rintro e v1 ⟨rfl, b1⟩; rw [join_one, ← HD.out.1])
        | (refine wpList_store_mid rfl 25 (.tmp 7) (.tmp 27) rfl v1.heap.size 0 (u8s D).toArray rfl rfl ((Blk.new' (L := u8s (List.replicate 32 0)) rfl (by kernel_rfl)).there 0 _ (by simp [u8s_length, HD.out.2])) (by simpa using hin) (all_oneCell_toArray (u8s_one _)) ?_))
      generalize hV : World.setCells _ _ _ _ = V
      obtain ⟨x, hx⟩ : ∃ x, x = v1.heap.size := ⟨_, rfl⟩
      rw [← hx]
      have pv : Blk V x (u8s D) 25 ∧ Below w.heap.size w V := by
        have hsW := bW.size
        have hsz : W.heap.size + 1 ≤ v1.heap.size := by have := b1.size; simpa using this
        rw [← hV, hx]
        exact ⟨(Blk.new' (L := u8s (List.replicate 32 0)) rfl (by kernel_rfl)).setAll (by simp [u8s_length, HD.out.2]), below_setCells (by omega) _ _ _ (((bW.alloc bW.size _).trans (b1.mono (by simp; omega))).alloc (by omega) _)⟩
      clear hV hx b1 bW HG
      obtain ⟨p0, p1⟩ := pv
      by_cases l2 : (64 : Int) < len0
      · have HV : Hid (BIn V a0 len0 X) := H.out.2.1.1.below p1
        obtain ⟨E, hE⟩ : ∃ E, E = sumI (takeI st0 X) := ⟨_, rfl⟩
        have HE : Hid (E = sumI (takeI st0 X) ∧ E.length = 32 ∧ ofI E Y = D ∧ ∀ z ∈ E, Fits8 z) := ⟨hE, by rw [hE, sumI_length], by rw [HD.out.1, hE]; exact of_key (key_long (by rw [H.out.2.1.1.1]; omega)), by rw [hE]; exact sumI_fits _⟩
        have hie : (Tryd.prog.info? 25).map (·.size) = some (u8s E).length := by rw [u8s_length, HE.out.2.1]; exact Tryd.info_digest
        clear hE
        go_upto_region 6 with (first
          | (go_at_call 11; refine (refdig_of a0 len0 cap0 X V HV.out H.out.2.1.2.2 (by have := HN.out.1; omega)).mono ?_; rintro e v2 ⟨rfl, b2⟩; rw [← HE.out.1])
          | (refine wpList_store_mid rfl 25 (.tmp 8) (.tmp 32) rfl v2.heap.size 0 (u8s E).toArray rfl rfl ((Blk.new' (L := u8s (List.replicate 32 0)) rfl (by kernel_rfl)).there 0 _ (by simp [u8s_length, HE.out.2.1])) (by simpa using hie) (all_oneCell_toArray (u8s_one _)) ?_))
        generalize hU : World.setCells _ _ _ _ = U
        obtain ⟨y, hy⟩ : ∃ y, y = v2.heap.size := ⟨_, rfl⟩
        rw [← hy]
        have pu : Blk U x (u8s D) 25 ∧ Rest w a1 len1 Y (some ⟨y, 0, none⟩) 32 E U := by
          have hsz := b2.size
          have hsw := p1.size
          have l := p0.lt
          have hb : Below w.heap.size w U := by rw [← hU]; exact below_setCells (by omega) _ _ _ ((p1.trans (b2.mono (by omega))).alloc (by omega) _)
          have hbk : Blk U y (u8s E) 25 := by rw [← hU, hy]; exact (Blk.new' (L := u8s (List.replicate 32 0)) rfl (by kernel_rfl)).setAll (by simp [u8s_length, HE.out.2.1])
          refine ⟨by rw [← hU]; exact ((p0.below b2 l).alloc _).setCells_other (by omega) _ _, H.out.1.below hb H.out.1.lt, H.out.2.2.1.below hb, ?_, hb⟩
          have := hbk.bin HE.out.2.2.2 (by rw [HE.out.2.1]; unfold maxLen; omega)
          rwa [HE.out.2.1] at this
        have hsl := fun w => run_whole (P := Tryd.prog) Tryd.underlying25 Tryd.byte1 w y 0 (by omega)
        clear hU hy b2 p0 p1 HV
        obtain ⟨u0, uR⟩ := pu
        have rx : U.rangeAt x 0 (u8s D) := u0.whole
        clear u0
        refine wp_region_held_drew (S := fun w' => w'.rangeAt x 0 (u8s D) ∧ Rest w a1 len1 Y (some ⟨y, 0, none⟩) 32 E w') (by kernel_rfl) ⟨by simpa using rx, uR.below ((Below.refl _ _).drew)⟩ (fun hS => ?_)
        clear rx uR
        refine wpAnyH_take (i := 0) (oi := { dst := some 33, op := Op.load 25 (Operand.tmp 7), type := 25, pos := "law.go:49", after := #[], guard := none }) (v := .agg (u8s D).toArray) rfl (by kernel_rfl) (by kernel_rfl) (by kernel_rfl) (fun _ _ _ h => h) (yieldsIf_load_mid (by rfl) 25 (.tmp 7) rfl x 0 rfl (u8s D) _ (fun w h => h.1) hud rfl hin) hS ?_
        simp only [Act.put, List.setIfInBounds_toArray, List.set_cons_zero, List.set_cons_succ]
        refine wpAnyH_take (i := 1) (oi := { dst := some 34, op := Op.slice 25 (Operand.tmp 8) none none none, type := 22, pos := "law.go:49", after := #[], guard := none }) (v := .slice (some ⟨y, 0, none⟩) 32 32) rfl (by kernel_rfl) (by kernel_rfl) (by kernel_rfl) (fun _ _ _ h => h) (Or.inl ⟨by rfl, fun w _ => by (go_simp; try with_reducible rfl)⟩) hS ?_
        simp only [Act.put, List.setIfInBounds_toArray, List.set_cons_zero, List.set_cons_succ]
        refine wpAnyH_take (i := 2) (oi := { dst := some 35, op := Op.move (Operand.tmp 1), type := 22, pos := "law.go:49", after := #[], guard := none }) (v := .slice a1 len1 cap1) rfl (by kernel_rfl) (by kernel_rfl) (by kernel_rfl) (fun _ _ _ h => h) (Or.inl ⟨by rfl, fun w _ => by (go_simp; try with_reducible rfl)⟩) hS ?_
        simp only [Act.put, List.setIfInBounds_toArray, List.set_cons_zero, List.set_cons_succ]
        refine wpAnyH_ready (rs := [3]) (by kernel_rfl) (by simp) (AllReadyH.cons (o := { dst := some 36, op := Op.buildSlice 29 1 #[(0, Operand.tmp 35)], type := 29, pos := "law.go:49", after := #[{ on := 2, ground := Ground.data }], guard := none }) rfl (fun K hK => ?_) AllReadyH.nil)
        go_simp
        refine hK.out _ _ ⟨range_below hS.1 ((Below.refl _ _).alloc (Nat.le_refl _) _), hS.2.below ((Below.refl _ _).alloc (Nat.le_refl _) _)⟩ (fun hS' => ?_)
        clear hK K
        refine wpAnyH_ready (rs := [4]) (by kernel_rfl) (by simp) (AllReadyH.cons (o := { dst := some 37, op := Op.call { callee := Callee.value (Operand.func 9), args := #[Operand.tmp 34, Operand.tmp 36], argTypes := #[22, 29] }, type := 25, pos := "law.go:49", after := #[{ on := 1, ground := Ground.data }, { on := 3, ground := Ground.data }], guard := none }) rfl (fun K hK => ?_) AllReadyH.nil)
        go_simp
        refine (of_of (some ⟨y, 0, none⟩) 32 32 E _ 1 1 (fun _ => Y) _ hS'.2.1 hS'.2.2.2.1 (by omega) (Nat.le_refl _) (one_ps rfl hS.2.2.1 H.out.2.2.2.1 H.out.2.2.2.2) (by omega) HN.out.2.2).mono ?_
        rintro e u ⟨rfl, bel⟩
        rw [join_one, HE.out.2.2.1]
        refine hK.out _ _ ⟨range_below hS'.1 bel, hS'.2.below bel⟩ (fun hS2 => ?_)
        clear hK K bel hS hS'
        have hS := hS2
        refine wpAnyH_take (i := 5) (oi := { dst := some 38, op := Op.binOp BinOp.eql 25 (Operand.tmp 33) (Operand.tmp 37) 25, type := 4, pos := "law.go:49", after := #[{ on := 0, ground := Ground.data }, { on := 4, ground := Ground.data }], guard := none }) (v := .bool true) rfl (by kernel_rfl) (by kernel_rfl) (by kernel_rfl) (fun _ _ _ h => h) (Or.inl ⟨by rfl, fun w _ => by (go_simp; try with_reducible rfl)⟩) hS ?_
        simp only [Act.put, List.setIfInBounds_toArray, List.set_cons_zero, List.set_cons_succ]
        refine wpAnyH_take (i := 6) (oi := { dst := some 6, op := Op.assign (Operand.tmp 38), type := 4, pos := "law.go:49", after := #[{ on := 5, ground := Ground.data }, { on := 4, ground := Ground.chain }, { on := 0, ground := Ground.phase }, { on := 1, ground := Ground.phase }, { on := 2, ground := Ground.phase }, { on := 3, ground := Ground.phase }, { on := 4, ground := Ground.phase }, { on := 5, ground := Ground.phase }], guard := none }) (v := .bool true) rfl (by kernel_rfl) (by kernel_rfl) (by kernel_rfl) (fun _ _ _ h => h) (Or.inl ⟨by rfl, fun w _ => by (go_simp; try with_reducible rfl)⟩) hS ?_
        simp only [Act.put, List.setIfInBounds_toArray, List.set_cons_zero, List.set_cons_succ]
        refine wpAnyH_done (by kernel_rfl) ?_ _
        go_wp2
        go_ret
        exact ⟨rfl, hS2.2.2.2.2⟩
      · have hle : (len0 : Int) ≤ 64 := by omega
        have HV : Hid (BIn V a0 len0 X) := H.out.2.1.1.below p1
        go_upto_region 9 with (at_builtin; refine wpList_append_bin rfl (.tmp 39) (.tmp 40) rfl V.heap.size none 0 0 [] rfl (World.ownsRow_nil _ _ _ _) a0 len0 cap0 X rfl HV.out H.out.2.1.2.2 (by omega) (Nat.le_refl _) ?_; intro A C u1 ow1 bu1; simp only [Nat.zero_add, List.nil_append] at ow1 ⊢)
        obtain ⟨q, hq⟩ : ∃ q, q = V.heap.size := ⟨_, rfl⟩
        rw [← hq] at ow1
        have HQ : Hid (q = V.heap.size ∧ w.heap.size ≤ q ∧ x < q) := ⟨hq, by rw [hq]; exact p1.size, by rw [hq]; exact p0.lt⟩
        have b1 : Below q V u1 := by rw [hq]; exact bu1
        have HP : Hid (Blk V x (u8s D) 25 ∧ Below w.heap.size w V) := ⟨p0, p1⟩
        clear hq bu1 p0 p1 HV
        obtain ⟨n, hn⟩ : ∃ n : Nat, a2 = n := ⟨a2.toNat, by omega⟩
        subst hn
        have hnb : n ≤ 255 := by omega
        go_wp2
        go_loopw [9, 10] (fun m i wr => ∃ (j : Nat) (A : Option Addr) (N C : Nat), j ≤ n ∧ i = .int .i64 j ∧ m = .slice A N C ∧ N = len0 + j ∧ N ≤ 64 ∧ wr.ownsRow q 5 1 (.slice A N C) N (u8s (X ++ List.replicate j 0)) ∧ Below q V wr ∧ q ≤ wr.heap.size)
          (fun _ i _ => n - (intOf i).toNat)
        case atStart => exact ⟨0, A, len0, C, by omega, rfl, rfl, by omega, by omega, by simpa using ow1, b1, by have := b1.size; have := HQ.out; omega⟩
        case round =>
          clear ow1 b1
          obtain ⟨j, A, N, C, hj, rfl, rfl, hN, hN64, how, hb, hsz⟩ := hrel
          have HO : Hid (wr.ownsRow q 5 1 (.slice A N C) N (u8s (X ++ List.replicate j 0)) ∧ Below q V wr ∧ q ≤ wr.heap.size) := ⟨how, hb, hsz⟩
          have HF : Hid (∀ z ∈ X ++ List.replicate j 0, Fits8 z) := by
            intro z hz
            rcases List.mem_append.1 hz with h | h
            · exact H.out.2.1.1.2.2.1 z h
            · rw [List.mem_replicate] at h; rw [h.2]; unfold Fits8; omega
          have HE : Hid (N = len0 + j) := hN
          clear how hb hsz hN
          by_cases hgo : j < n ∧ N < 64
          · have g1 : (j : Int) < n := by omega
            have g2 : (N : Int) < 64 := by omega
            go_wp2_with (at_builtin; refine wpList_append_bin rfl (.tmp 53) (.tmp 54) rfl q A N C (X ++ List.replicate j 0) rfl (HO.out.1.alloc _) (some ⟨wr.heap.size, 0, none⟩) 1 1 [0] rfl (new_bin rfl rfl rfl (by simp [Fits8]) (by unfold maxLen; omega)) (fun h => by cases h) (by omega) (by have := HO.out.2.2; simp; omega) ?_; intro A2 C2 u2 ow2 bu2)
            have ow3 : u2.ownsRow q 5 1 (.slice A2 (N + 1) C2) (N + 1) (u8s (X ++ List.replicate (j + 1) 0)) := by
              have e : X ++ List.replicate (j + 1) 0 = X ++ List.replicate j 0 ++ [0] := by rw [List.append_assoc, ← List.replicate_succ']
              rw [e]; exact ow2
            have b3 : Below q V u2 := (HO.out.2.1.alloc HO.out.2.2 _).trans bu2
            go_roundw
            case rel => exact ⟨j + 1, A2, N + 1, C2, by omega, by go_num, rfl, by have := HE.out; omega, by omega, ow3, b3, by have := b3.size; have := HQ.out; omega⟩
            case measure => simp [intOf]; omega
          · have hK0 : Hid (Blk wr x (u8s D) 25 ∧ Rest w a1 len1 Y A N (X ++ List.replicate j 0) wr ∧ N ≤ C ∧ ofI (X ++ List.replicate j 0) Y = D) := by
              have hb : Below w.heap.size w wr := HP.out.2.trans (HO.out.2.1.mono HQ.out.2.1)
              exact ⟨HP.out.1.below HO.out.2.1 HQ.out.2.2, ⟨H.out.1.below hb H.out.1.lt, H.out.2.2.1.below hb, own_bin HO.out.1 (by unfold maxLen; omega) HF.out, hb⟩, own_cap HO.out.1, by rw [HD.out.1]; exact of_key (key_more (by rw [H.out.2.1.1.1]; have := HE.out; omega))⟩
            have rx : wr.rangeAt x 0 (u8s D) := hK0.out.1.whole
            have uR := hK0.out.2.1
            by_cases g1 : (j : Int) < n
            · have g2 : (64 : Int) ≤ N := by omega
              go_upto_region 13 with fail
              refine wp_region_held_drew (S := fun w' => w'.rangeAt x 0 (u8s D) ∧ Rest w a1 len1 Y A N (X ++ List.replicate j 0) w') (by kernel_rfl) ⟨by simpa using rx, uR.below ((Below.refl _ _).drew)⟩ (fun hS => ?_)
              clear rx uR
              refine wpAnyH_take (i := 0) (oi := { dst := some 56, op := Op.load 25 (Operand.tmp 7), type := 25, pos := "law.go:56", after := #[], guard := none }) (v := .agg (u8s D).toArray) rfl (by kernel_rfl) (by kernel_rfl) (by kernel_rfl) (fun _ _ _ h => h) (yieldsIf_load_mid (by rfl) 25 (.tmp 7) rfl x 0 rfl (u8s D) _ (fun w h => h.1) hud rfl hin) hS ?_
              simp only [Act.put, List.setIfInBounds_toArray, List.set_cons_zero, List.set_cons_succ]
              refine wpAnyH_take (i := 1) (oi := { dst := some 57, op := Op.move (Operand.tmp 9), type := 22, pos := "law.go:56", after := #[], guard := none }) (v := .slice A N C) rfl (by kernel_rfl) (by kernel_rfl) (by kernel_rfl) (fun _ _ _ h => h) (Or.inl ⟨by rfl, fun w _ => by (go_simp; try with_reducible rfl)⟩) hS ?_
              simp only [Act.put, List.setIfInBounds_toArray, List.set_cons_zero, List.set_cons_succ]
              refine wpAnyH_take (i := 2) (oi := { dst := some 58, op := Op.move (Operand.tmp 1), type := 22, pos := "law.go:56", after := #[], guard := none }) (v := .slice a1 len1 cap1) rfl (by kernel_rfl) (by kernel_rfl) (by kernel_rfl) (fun _ _ _ h => h) (Or.inl ⟨by rfl, fun w _ => by (go_simp; try with_reducible rfl)⟩) hS ?_
              simp only [Act.put, List.setIfInBounds_toArray, List.set_cons_zero, List.set_cons_succ]
              refine wpAnyH_ready (rs := [3]) (by kernel_rfl) (by simp) (AllReadyH.cons (o := { dst := some 59, op := Op.buildSlice 29 1 #[(0, Operand.tmp 58)], type := 29, pos := "law.go:56", after := #[{ on := 2, ground := Ground.data }], guard := none }) rfl (fun K hK => ?_) AllReadyH.nil)
              go_simp
              refine hK.out _ _ ⟨range_below hS.1 ((Below.refl _ _).alloc (Nat.le_refl _) _), hS.2.below ((Below.refl _ _).alloc (Nat.le_refl _) _)⟩ (fun hS' => ?_)
              clear hK K
              refine wpAnyH_ready (rs := [4]) (by kernel_rfl) (by simp) (AllReadyH.cons (o := { dst := some 60, op := Op.call { callee := Callee.value (Operand.func 9), args := #[Operand.tmp 57, Operand.tmp 59], argTypes := #[22, 29] }, type := 25, pos := "law.go:56", after := #[{ on := 1, ground := Ground.data }, { on := 3, ground := Ground.data }], guard := none }) rfl (fun K hK => ?_) AllReadyH.nil)
              go_simp
              refine (of_of A N C (X ++ List.replicate j 0) _ 1 1 (fun _ => Y) _ hS'.2.1 hS'.2.2.2.1 (by omega) hK0.out.2.2.1 (one_ps rfl hS.2.2.1 H.out.2.2.2.1 H.out.2.2.2.2) (by omega) HN.out.2.2).mono ?_
              rintro e u ⟨rfl, bel⟩
              rw [join_one, hK0.out.2.2.2]
              refine hK.out _ _ ⟨range_below hS'.1 bel, hS'.2.below bel⟩ (fun hS2 => ?_)
              clear hK K bel hS hS'
              have hS := hS2
              refine wpAnyH_take (i := 5) (oi := { dst := some 61, op := Op.binOp BinOp.eql 25 (Operand.tmp 56) (Operand.tmp 60) 25, type := 4, pos := "law.go:56", after := #[{ on := 0, ground := Ground.data }, { on := 4, ground := Ground.data }], guard := none }) (v := .bool true) rfl (by kernel_rfl) (by kernel_rfl) (by kernel_rfl) (fun _ _ _ h => h) (Or.inl ⟨by rfl, fun w _ => by (go_simp; try with_reducible rfl)⟩) hS ?_
              simp only [Act.put, List.setIfInBounds_toArray, List.set_cons_zero, List.set_cons_succ]
              refine wpAnyH_take (i := 6) (oi := { dst := some 6, op := Op.assign (Operand.tmp 61), type := 4, pos := "law.go:56", after := #[{ on := 5, ground := Ground.data }, { on := 4, ground := Ground.chain }, { on := 0, ground := Ground.phase }, { on := 1, ground := Ground.phase }, { on := 2, ground := Ground.phase }, { on := 3, ground := Ground.phase }, { on := 4, ground := Ground.phase }, { on := 5, ground := Ground.phase }], guard := none }) (v := .bool true) rfl (by kernel_rfl) (by kernel_rfl) (by kernel_rfl) (fun _ _ _ h => h) (Or.inl ⟨by rfl, fun w _ => by (go_simp; try with_reducible rfl)⟩) hS ?_
              simp only [Act.put, List.setIfInBounds_toArray, List.set_cons_zero, List.set_cons_succ]
              refine wpAnyH_done (by kernel_rfl) ?_ _
              go_wp2
              go_ret
              exact ⟨rfl, hS2.2.2.2.2⟩
            · have g2 : (n : Int) ≤ j := by omega
              go_upto_region 13 with fail
              refine wp_region_held_drew (S := fun w' => w'.rangeAt x 0 (u8s D) ∧ Rest w a1 len1 Y A N (X ++ List.replicate j 0) w') (by kernel_rfl) ⟨by simpa using rx, uR.below ((Below.refl _ _).drew)⟩ (fun hS => ?_)
              clear rx uR
              refine wpAnyH_take (i := 0) (oi := { dst := some 56, op := Op.load 25 (Operand.tmp 7), type := 25, pos := "law.go:56", after := #[], guard := none }) (v := .agg (u8s D).toArray) rfl (by kernel_rfl) (by kernel_rfl) (by kernel_rfl) (fun _ _ _ h => h) (yieldsIf_load_mid (by rfl) 25 (.tmp 7) rfl x 0 rfl (u8s D) _ (fun w h => h.1) hud rfl hin) hS ?_
              simp only [Act.put, List.setIfInBounds_toArray, List.set_cons_zero, List.set_cons_succ]
              refine wpAnyH_take (i := 1) (oi := { dst := some 57, op := Op.move (Operand.tmp 9), type := 22, pos := "law.go:56", after := #[], guard := none }) (v := .slice A N C) rfl (by kernel_rfl) (by kernel_rfl) (by kernel_rfl) (fun _ _ _ h => h) (Or.inl ⟨by rfl, fun w _ => by (go_simp; try with_reducible rfl)⟩) hS ?_
              simp only [Act.put, List.setIfInBounds_toArray, List.set_cons_zero, List.set_cons_succ]
              refine wpAnyH_take (i := 2) (oi := { dst := some 58, op := Op.move (Operand.tmp 1), type := 22, pos := "law.go:56", after := #[], guard := none }) (v := .slice a1 len1 cap1) rfl (by kernel_rfl) (by kernel_rfl) (by kernel_rfl) (fun _ _ _ h => h) (Or.inl ⟨by rfl, fun w _ => by (go_simp; try with_reducible rfl)⟩) hS ?_
              simp only [Act.put, List.setIfInBounds_toArray, List.set_cons_zero, List.set_cons_succ]
              refine wpAnyH_ready (rs := [3]) (by kernel_rfl) (by simp) (AllReadyH.cons (o := { dst := some 59, op := Op.buildSlice 29 1 #[(0, Operand.tmp 58)], type := 29, pos := "law.go:56", after := #[{ on := 2, ground := Ground.data }], guard := none }) rfl (fun K hK => ?_) AllReadyH.nil)
              go_simp
              refine hK.out _ _ ⟨range_below hS.1 ((Below.refl _ _).alloc (Nat.le_refl _) _), hS.2.below ((Below.refl _ _).alloc (Nat.le_refl _) _)⟩ (fun hS' => ?_)
              clear hK K
              refine wpAnyH_ready (rs := [4]) (by kernel_rfl) (by simp) (AllReadyH.cons (o := { dst := some 60, op := Op.call { callee := Callee.value (Operand.func 9), args := #[Operand.tmp 57, Operand.tmp 59], argTypes := #[22, 29] }, type := 25, pos := "law.go:56", after := #[{ on := 1, ground := Ground.data }, { on := 3, ground := Ground.data }], guard := none }) rfl (fun K hK => ?_) AllReadyH.nil)
              go_simp
              refine (of_of A N C (X ++ List.replicate j 0) _ 1 1 (fun _ => Y) _ hS'.2.1 hS'.2.2.2.1 (by omega) hK0.out.2.2.1 (one_ps rfl hS.2.2.1 H.out.2.2.2.1 H.out.2.2.2.2) (by omega) HN.out.2.2).mono ?_
              rintro e u ⟨rfl, bel⟩
              rw [join_one, hK0.out.2.2.2]
              refine hK.out _ _ ⟨range_below hS'.1 bel, hS'.2.below bel⟩ (fun hS2 => ?_)
              clear hK K bel hS hS'
              have hS := hS2
              refine wpAnyH_take (i := 5) (oi := { dst := some 61, op := Op.binOp BinOp.eql 25 (Operand.tmp 56) (Operand.tmp 60) 25, type := 4, pos := "law.go:56", after := #[{ on := 0, ground := Ground.data }, { on := 4, ground := Ground.data }], guard := none }) (v := .bool true) rfl (by kernel_rfl) (by kernel_rfl) (by kernel_rfl) (fun _ _ _ h => h) (Or.inl ⟨by rfl, fun w _ => by (go_simp; try with_reducible rfl)⟩) hS ?_
              simp only [Act.put, List.setIfInBounds_toArray, List.set_cons_zero, List.set_cons_succ]
              refine wpAnyH_take (i := 6) (oi := { dst := some 6, op := Op.assign (Operand.tmp 61), type := 4, pos := "law.go:56", after := #[{ on := 5, ground := Ground.data }, { on := 4, ground := Ground.chain }, { on := 0, ground := Ground.phase }, { on := 1, ground := Ground.phase }, { on := 2, ground := Ground.phase }, { on := 3, ground := Ground.phase }, { on := 4, ground := Ground.phase }, { on := 5, ground := Ground.phase }], guard := none }) (v := .bool true) rfl (by kernel_rfl) (by kernel_rfl) (by kernel_rfl) (fun _ _ _ h => h) (Or.inl ⟨by rfl, fun w _ => by (go_simp; try with_reducible rfl)⟩) hS ?_
              simp only [Act.put, List.setIfInBounds_toArray, List.set_cons_zero, List.set_cons_succ]
              refine wpAnyH_done (by kernel_rfl) ?_ _
              go_wp2
              go_ret
              exact ⟨rfl, hS2.2.2.2.2⟩

set_option maxRecDepth 100000 in
theorem lifted (os : Os) (started : os.Started) (H : Type) (enc : TypeId × Value → H) :
    ReturnsInHanded {} Tryd.checked os 5 .any (fun w args => (Rows.macKeysSpec.pre enc Tryd.prog Tryd.f5 [] false w args ∧ laidMetH Tryd.prog laid2 w) ∧ sizedMet enc Tryd.prog Tryd.f5 (OpenSpec.ofChange Rows.macKeysSpec) false w args)
      (Rows.macKeysSpec.post enc Tryd.prog Tryd.f5 false true false false) := by
  refine returnsInHanded_of_change_and (C := Tryd.checked) (X := fun w _ => laidMetH Tryd.prog laid2 w) (fun _ _ _ hh h => h.of_heap hh) own started (by kernel_rfl) Tryd.func5
    (ChangeSpec.witness_shaped (enc := enc) (C := Tryd.checked) (os := os) (X := fun w _ => laidMetH Tryd.prog laid2 w) false (World.doorLaid Tryd.prog 400 os) #[.slice none 0 0, .slice none 0 0, .int .u8 0] 8 rfl (World.shaped_of_RefB (by kernel_rfl) (by kernel_rfl)) (by kernel_rfl) (by kernel_rfl) (by kernel_rfl) (door_met os _)) ?_
  intro W base args ds gs before hval0 hW hcnd _ hL _
  have hval : ∀ (j : Nat) t v, Tryd.f5.params[j]? = some t → args[j]? = some v → Value.okWide Tryd.prog W .any base t v := hval0
  have hW' := hW
  obtain ⟨p, q, hA0, hV, rfl, hfz, hnd⟩ := hW
  have hA : DataW.TrodAll enc Tryd.prog W 0 (fun _ => true) true Tryd.f5.params.toList args.toList ds p := hA0
  rw [Tryd.params5] at hA hval
  obtain ⟨v0, vs0, d0, ds0, p0, q0, hargs, rfl, rfl, h0, r0⟩ := trodAll_cons hA
  obtain ⟨v1, vs1, d1, ds1, p1, q1, rfl, rfl, rfl, h1, r1⟩ := trodAll_cons r0
  obtain ⟨v2, vs2, d2, ds2, p2, q2, rfl, rfl, rfl, h2, r2⟩ := trodAll_cons r1
  obtain ⟨rfl, rfl, rfl⟩ := trodAll_nil r2
  obtain rfl : args = #[v0, v1, v2] := by cases args; simp_all
  obtain ⟨rfl, rfl⟩ := trodVars_none hV
  obtain ⟨a0, len0, cap0, rfl⟩ := okWide_slice Tryd.underlying22 (hval 0 22 v0 rfl rfl)
  have k0 := h0
  have lt0 : ∀ x ∈ p0, x.block < W.heap.size := by obtain ⟨m, hm⟩ := k0; exact DataW.trod_lt m _ _ _ hm
  obtain ⟨z0, w0⟩ : ∃ zs, IsRow .u8 W a0 len0 cap0 zs := by
    obtain ⟨fuel, hf⟩ := h0
    rcases open_ints Tryd.underlying22 Tryd.underlying5 (by kernel_rfl) hf with ⟨hcs, _⟩ | ⟨x, l, c, zs, hcs, _, hl, hm, hz, _, hcell, hwz⟩
    · simp [Value.cells] at hcs
      obtain ⟨rfl, rfl, rfl⟩ := hcs
      exact ⟨[], .inl ⟨rfl, rfl, rfl, rfl⟩⟩
    · simp [Value.cells] at hcs
      obtain ⟨rfl, rfl, rfl⟩ := hcs
      exact ⟨zs, .inr ⟨_, rfl, hl, hm, by simpa using hz, hcell, hwz⟩⟩
  obtain ⟨a1, len1, cap1, rfl⟩ := okWide_slice Tryd.underlying22 (hval 1 22 v1 rfl rfl)
  have k1 := h1
  have lt1 : ∀ x ∈ p1, x.block < W.heap.size := by obtain ⟨m, hm⟩ := k1; exact DataW.trod_lt m _ _ _ hm
  obtain ⟨z1, w1⟩ : ∃ zs, IsRow .u8 W a1 len1 cap1 zs := by
    obtain ⟨fuel, hf⟩ := h1
    rcases open_ints Tryd.underlying22 Tryd.underlying5 (by kernel_rfl) hf with ⟨hcs, _⟩ | ⟨x, l, c, zs, hcs, _, hl, hm, hz, _, hcell, hwz⟩
    · simp [Value.cells] at hcs
      obtain ⟨rfl, rfl, rfl⟩ := hcs
      exact ⟨[], .inl ⟨rfl, rfl, rfl, rfl⟩⟩
    · simp [Value.cells] at hcs
      obtain ⟨rfl, rfl, rfl⟩ := hcs
      exact ⟨zs, .inr ⟨_, rfl, hl, hm, by simpa using hz, hcell, hwz⟩⟩
  obtain ⟨a2, rfl, rfl, rfl, w2⟩ := open_int Tryd.underlying5 (hval 2 5 v2 rfl rfl) h2
  clear hA0 hval0
  refine (walk a0 len0 cap0 z0 a1 len1 cap1 z1 a2 W (of_laid hL) w0 w1 w2).mono fun e W' ⟨he, bel⟩ => ?_
  subst he
  exact ⟨_, rfl, _, _, _, [], _, [], hW', trodAll_mk1 (shut_bool Tryd.underlying4 _), (trodAll_cons_mk (Below.trod laidOut (by kernel_rfl) (of_decide_eq_true (by kernel_rfl)) k0 bel lt0) (trodAll_cons_mk (Below.trod laidOut (by kernel_rfl) (of_decide_eq_true (by kernel_rfl)) k1 bel lt1) (trodAll_cons_mk (shut_int Tryd.underlying5 w2) trodAll_mk0))), rfl, bel.frame _, fun h => by cases h⟩

theorem over : Rows.macKeysRow.holds Tryd.pinned (OpenSpec.ofChange Rows.macKeysSpec) :=
  OpenClaim.holds_of_wide 5 Tryd.f5 rfl rfl rfl rfl rfl rfl rfl ⟨rfl, rfl, rfl, rfl, rfl⟩ rfl rfl rfl rfl rfl (by kernel_rfl) Tryd.func5 (by kernel_rfl)
    (of_decide_eq_true (by kernel_rfl)) (by unfold Func.isWrapper; first | (rw [if_pos (by decide +kernel)]; kernel_rfl) | (rw [if_neg (by decide +kernel)]; exact ⟨rfl, rfl⟩))
    (fun os started H enc _ => lifted os started H enc)

theorem said : Rows.MacKeysSaid := over
end Go.Proofs.YtakbnecmaccieaaDoor.macKeys
namespace Go.Proofs.YtakbnecmaccieaaDoor
/-- The tied card. -/
theorem macKeys_card : Rows.MacKeysCardSaid :=
  Claim7.holds_tied_plain_at .later [] [.data, .data] true (true, "ec37803ce0c76b2e91dc930df1b1b4d433909658e8f2fe1d19451ce5ea3400a0") false
    macKeys.said (fun _ h => by cases h) (by kernel_rfl) (fun _ h => by cases h) macKeys_row_tie rfl ⟨rfl, rfl⟩ (by kernel_rfl) rfl
    (fun f fn hf hfn => by
      obtain rfl : f = 5 := Option.some.inj ((show Tryd.prog.funcNamed "coaming/coaminglaw03.MacKeys" = some 5 by kernel_rfl).symm.trans hf) |>.symm
      obtain rfl : fn = Tryd.f5 := (Option.some.inj (Tryd.func5.symm.trans hfn)).symm
      exact ⟨by kernel_rfl, fun j t ht => by
        rw [Tryd.params5] at ht
        have hm : t ∈ [22,22,5] := by simpa using Array.mem_of_getElem? ht
        have hall : ([22,22,5].all fun u => !Tryd.prog.wantsStandIn u) = true := by kernel_rfl
        exact (show Tryd.prog.wantsStandIn t = false by simpa using List.all_eq_true.1 hall t hm)⟩)
    (by kernel_rfl)
#print axioms macKeys_card
end Go.Proofs.YtakbnecmaccieaaDoor
