/- What one call of the document's own Sum does: the digest by its definition, over plain lists. -/
import Derived.Test.YtpliokkmiijieaaDoorRefMore
namespace Go.Proofs.YtpliokkmiijieaaDoor
open Go.RowKit
set_option linter.unusedVariables false

def zeroN (n : Nat) : Nat := (119 - n % 64) % 64
def padded (b : List Int) : List Int := b ++ [128] ++ List.replicate (zeroN b.length) 0
def blocksN (P : List Int) : Nat → List Int
  | 0 => startS
  | m + 1 => addN (blocksN P m) (roundsR (blocksN P m) (wordsN ((P.drop (64 * m)).take 64) 64) 64) 8
def outN (S : List Int) : Nat → List Int
  | 0 => List.replicate 32 0
  | k + 1 => (outN S k).set k (S.getD (k / 4) 0 / 2 ^ (24 - k % 4 * 8) % 256)
theorem outN_length (S : List Int) (k : Nat) : (outN S k).length = 32 := by
  induction k with
  | zero => simp [outN]
  | succ k ih => simp [outN, ih]
theorem zeroN_le (n : Nat) : zeroN n ≤ 63 := by unfold zeroN; omega
theorem byte_bin (w : World) (z : Int) (hz : Fits8 z) (k : Nat) (hk : w.heap.size = k) : BIn (w.alloc (.cells #[.int .u8 z] 5)) (some ⟨k, 0, none⟩) 1 [z] := by
  subst hk
  refine ⟨rfl, by unfold maxLen; omega, by simpa using hz, .inr ⟨w.heap.size, 0, rfl, fun i hi => ?_⟩⟩
  rw [World.cell?_alloc_mark, Nat.zero_add]
  match i, hi with
  | 0, _ => rfl
/-- A row that the call owns, of bytes that fit. -/
def Own (w : World) (base : Nat) (a : Option Addr) (n c : Nat) (zs : List Int) : Prop := w.ownsRow base 5 1 (.slice a n c) n (u8s zs) ∧ (∀ z ∈ zs, Fits8 z)
theorem Own.len {w : World} {base : Nat} {a : Option Addr} {n c : Nat} {zs : List Int} (h : Own w base a n c zs) : zs.length = n := by have := h.1.1; simpa [u8s] using this

theorem out_next {w wr : World} {g o q k : Nat} {R : List Int} {Z : List Value} {v : Int} (hrow : Row8 wr g R) (hbo : Blk wr o (u8s (outN R k)) 59) (hbq : Blk wr q Z 59) (hbl : Below q w wr) (hg : g < o) (hq : q < o) (hv : v = R.getD (k / 4) 0 / 2 ^ (24 - k % 4 * 8) % 256) :
    Row8 (wr.setCell ⟨o, k, none⟩ (.int .u8 v)) g R ∧ Blk (wr.setCell ⟨o, k, none⟩ (.int .u8 v)) o (u8s (outN R (k + 1))) 59 ∧ Blk (wr.setCell ⟨o, k, none⟩ (.int .u8 v)) q Z 59 ∧ Below q w (wr.setCell ⟨o, k, none⟩ (.int .u8 v)) := by
  refine ⟨⟨hrow.1, hrow.2.1, fun i hi => kept_set (hrow.2.2 i hi) (by show g ≠ o; omega)⟩, ?_, hbq.set_other (by show q ≠ o; omega) _, hbl.setCell (by show q ≤ o; omega) _⟩
  have := hbo.set k (.int .u8 v)
  have e : (u8s (outN R k)).set k (.int .u8 v) = u8s (outN R (k + 1)) := by rw [hv]; simp [u8s, outN, List.map_set]
  rw [e] at this
  exact this

set_option maxRecDepth 100000 in
set_option maxHeartbeats 2000000 in
theorem refsum_of (a : Option Addr) (n c : Nat) (zs : List Int) (w : World) (hl : BIn w a n zs) (hnil : a = none → n = 0 ∧ c = 0) (hn : n ≤ 100000) :
    Calls Tryd.prog 47 #[.slice a n c] w fun e w' =>
      e = .returned (.agg (u8s (outN (blocksN (padded zs ++ bigI 8 (n * 8)) ((n + 1 + zeroN n + 8) / 64)) 32)).toArray) ∧ Below w.heap.size w w' := by
  have H : Hid (BIn w a n zs ∧ (a = none → n = 0 ∧ c = 0) ∧ n ≤ 100000) := ⟨hl, hnil, hn⟩
  have hn0 : (n : Int) ≤ 100000 := by omega
  clear hl hnil hn
  go_enter Tryd.func47, Tryd.ntmps47
  go_upto_region 1 with fail
  generalize hV : World.alloc _ _ = V
  have pv : Blk V w.heap.size (u8s (List.replicate 32 0)) 59 ∧ Below w.heap.size w V ∧ V.heap.size = w.heap.size + 1 := by
    rw [← hV]
    exact ⟨Blk.new' rfl (by kernel_rfl), (Below.refl _ _).alloc (Nat.le_refl _) _, by simp⟩
  obtain ⟨q, hq⟩ : ∃ q, q = w.heap.size := ⟨_, rfl⟩
  rw [← hq] at pv ⊢
  have HQ : Hid (q = w.heap.size ∧ Blk V q (u8s (List.replicate 32 0)) 59 ∧ Below q w V ∧ V.heap.size = q + 1) := ⟨hq, pv.1, pv.2.1, pv.2.2⟩
  clear hq hV pv
  go_upto_region 3 with (at_builtin; refine wpList_append_bin rfl (.tmp 10) (.tmp 11) rfl (q + 1) none 0 0 [] rfl (World.ownsRow_nil _ _ _ _) a n c zs rfl (H.out.1.below (by have h := HQ.out; rw [← h.1]; exact h.2.2.1)) H.out.2.1 (by have := H.out.2.2; omega) (by have := HQ.out.2.2.2; omega) ?_; intro A1 C1 u1 ow1 bu1; simp only [Nat.zero_add, List.nil_append] at ow1 ⊢)
  have sz1 : q + 1 ≤ u1.heap.size := by have h1 := bu1.size; have h2 := HQ.out.2.2.2; omega
  go_upto_region 4 with (at_builtin; refine wpList_append_bin rfl (.tmp 13) (.tmp 14) rfl (q + 1) A1 n C1 zs rfl (ow1.alloc _) (some ⟨u1.heap.size, 0, none⟩) 1 1 [128] rfl (byte_bin u1 128 (by unfold Fits8; omega) _ rfl) (fun h => by cases h) (by have := H.out.2.2; omega) (by simp; omega) ?_; intro A2 C2 u2 ow2 bu2)
  have HP : Hid (Own u2 (q + 1) A2 (n + 1) C2 (zs ++ [128]) ∧ Below (q + 1) V u2) := by
    refine ⟨⟨ow2, ?_⟩, bu1.trans (((Below.refl _ _).alloc sz1 _).trans bu2)⟩
    intro z hz
    rcases List.mem_append.1 hz with h | h
    · exact H.out.1.2.2.1 z h
    · simp at h; subst h; unfold Fits8; omega
  clear ow1 bu1 sz1 ow2 bu2
  go_wp2
  go_loopw [3] (fun p wr => ∃ (z : Nat) (A : Option Addr) (C : Nat), z ≤ zeroN n ∧ p = .slice A (n + 1 + z) C ∧ Own wr (q + 1) A (n + 1 + z) C (zs ++ [128] ++ List.replicate z 0) ∧ Below (q + 1) V wr)
    (fun p _ => n + 1 + zeroN n - lenOf p)
  case atStart => exact ⟨0, A2, C2, by omega, rfl, by simpa using HP.out.1, HP.out.2⟩
  case round =>
    obtain ⟨z, A, C, hz, rfl, hown, hbl⟩ := hrel
    have HI : Hid (z ≤ zeroN n ∧ Own wr (q + 1) A (n + 1 + z) C (zs ++ [128] ++ List.replicate z 0) ∧ Below (q + 1) V wr ∧ q + 1 ≤ wr.heap.size) := ⟨hz, hown, hbl, by have h1 := hbl.size; have h2 := HQ.out.2.2.2; omega⟩
    have hz63 : z ≤ 63 := by have := zeroN_le n; omega
    clear hz hown hbl
    obtain ⟨N, hN⟩ : ∃ N, N = n + 1 + z := ⟨_, rfl⟩
    rw [← hN] at HI ⊢
    have N0 : (N : Int) ≤ 100064 := by omega
    have N1 : (0 : Int) ≤ N := by omega
    by_cases hlast : z = zeroN n
    · have e1 : (N : Int).tmod 64 = 56 := by rw [Int.tmod_eq_emod_of_nonneg (by omega)]; unfold zeroN at hlast; omega
      have e2 : (N : Int) % 64 = 56 := by unfold zeroN at hlast; omega
      have HN : Hid (N = n + 1 + zeroN n ∧ Own wr (q + 1) A N C (padded zs) ∧ Below (q + 1) V wr) := by
        have h := HI.out
        refine ⟨by omega, ?_, h.2.2.1⟩
        rw [hlast] at h
        unfold padded
        rw [H.out.1.1]; exact h.2.1
      clear HI hN hlast
      go_wp2
      go_loopw [3, 5] (fun p i wr => ∃ (j : Nat) (A : Option Addr) (C : Nat), j ≤ 8 ∧ i = .int .i64 (7 - (j : Int)) ∧ p = .slice A (N + j) C ∧ Own wr (q + 1) A (N + j) C (padded zs ++ (bigI 8 (n * 8)).take j) ∧ Below (q + 1) V wr)
        (fun p _ _ => N + 8 - lenOf p)
      case atStart => exact ⟨0, A, C, by omega, rfl, rfl, by simpa using HN.out.2.1, HN.out.2.2⟩
      case round =>
        obtain ⟨j, A', C', hj, rfl, rfl, hown, hbl⟩ := hrel
        have HI : Hid (Own wr (q + 1) A' (N + j) C' (padded zs ++ (bigI 8 (n * 8)).take j) ∧ Below (q + 1) V wr ∧ q + 1 ≤ wr.heap.size) := ⟨hown, hbl, by have h1 := hbl.size; have h2 := HQ.out.2.2.2; omega⟩
        clear hown hbl
        by_cases hj8 : j < 8
        · have hj8' : (j : Int) < 8 := by omega
          have j0 : (0 : Int) ≤ 7 - (j : Int) := by omega
          have tj : (8 * (7 - (j : Int))).toNat = 8 * (7 - j) := by omega
          have wj : IntKind.i64.wrap (8 * (7 - (j : Int))) = 8 * (7 - (j : Int)) := wrap_small _ (by omega) (by omega)
          have wj2 : IntKind.u64.wrap (8 * (7 - (j : Int))) = 8 * (7 - (j : Int)) := by rw [IntKind.wrap_u64]; omega
          have j2 : (0 : Int) ≤ 8 * (7 - (j : Int)) := by omega
          have j3 : 8 * (7 - (j : Int)) ≤ 64 := by omega
          go_wp2_with (at_builtin; refine wpList_append_bin rfl (.tmp 31) (.tmp 38) rfl (q + 1) A' (N + j) C' (padded zs ++ (bigI 8 (n * 8)).take j) rfl (HI.out.1.1.alloc _) (some ⟨wr.heap.size, 0, none⟩) 1 1 [((n : Int) * 8) / 2 ^ (8 * (7 - j)) % 256] rfl (byte_bin wr _ ⟨by omega, by omega⟩ _ rfl) (fun h => by cases h) (by omega) (by have h := HI.out.2.2; simp; omega) ?_; intro A3 C3 u3 ow3 bu3)
          have r1 : Own u3 (q + 1) A3 (N + (j + 1)) C3 (padded zs ++ (bigI 8 (n * 8)).take (j + 1)) := by
            have hjl : j < (bigI 8 ((n : Int) * 8)).length := by rw [bigI_length]; exact hj8
            have e0 := bigI_getD ((n : Int) * 8) hj8
            simp only [List.getD, List.getElem?_eq_getElem hjl, Option.getD_some] at e0
            have e : (bigI 8 ((n : Int) * 8)).take (j + 1) = (bigI 8 ((n : Int) * 8)).take j ++ [((n : Int) * 8) / 2 ^ (8 * (7 - j)) % 256] := by
              rw [List.take_succ_eq_append_getElem hjl, e0]
            rw [e, ← List.append_assoc]
            refine ⟨ow3, fun y hy => ?_⟩
            rcases List.mem_append.1 hy with h | h
            · exact HI.out.1.2 y h
            · simp only [List.mem_cons, List.not_mem_nil, or_false] at h; rw [h]; exact ⟨by omega, by omega⟩
          have r2 : Below (q + 1) V u3 := HI.out.2.1.trans (((Below.refl _ _).alloc HI.out.2.2 _).trans bu3)
          clear ow3 bu3
          go_wp2
          go_roundw
          case rel => exact ⟨j + 1, A3, C3, by omega, by go_num, rfl, r1, r2⟩
          case measure => simp only [lenOf]; omega
        · have hj7 : 7 - (j : Int) < 0 := by omega
          obtain ⟨Lp, hLp⟩ : ∃ Lp, Lp = N + j := ⟨_, rfl⟩
          have HP2 : Hid (Own wr (q + 1) A' Lp C' (padded zs ++ bigI 8 (n * 8)) ∧ Below (q + 1) V wr ∧ q + 1 ≤ wr.heap.size ∧ Lp = n + 1 + zeroN n + 8) := by
            have h := HI.out
            rw [List.take_of_length_le (by rw [bigI_length]; omega), ← hLp] at h
            exact ⟨h.1, h.2.1, h.2.2, by have := HN.out.1; omega⟩
          rw [← hLp]
          have L0 : (Lp : Int) ≤ 100200 := by omega
          clear hLp HI HN HP
          go_wp2
          obtain ⟨P, hP⟩ : ∃ P, P = padded zs ++ bigI 8 ((n : Int) * 8) := ⟨_, rfl⟩
          obtain ⟨M, hM⟩ : ∃ M, M = (n + 1 + zeroN n + 8) / 64 := ⟨_, rfl⟩
          have HM : Hid (Lp = 64 * M ∧ P = padded zs ++ bigI 8 ((n : Int) * 8) ∧ M = (n + 1 + zeroN n + 8) / 64 ∧ 0 < M) := by
            have h := HP2.out.2.2.2
            refine ⟨?_, hP, hM, ?_⟩
            · unfold zeroN at h hM; omega
            · rw [hM]; unfold zeroN; omega
          rw [← hP] at HP2
          generalize hVs : World.alloc _ _ = Vs
          obtain ⟨g0, hg0⟩ : ∃ g0, g0 = wr.heap.size := ⟨_, rfl⟩
          rw [← hg0]
          have HS : Hid (Row8 Vs g0 startS ∧ BIn Vs A' (Lp) P ∧ Lp ≤ C' ∧ Below (q + 1) V Vs ∧ q + 1 ≤ Vs.heap.size) := by
            rw [← hVs]
            have hb : Blk (wr.alloc (.cells #[.int .u32 1779033703, .int .u32 3144134277, .int .u32 1013904242, .int .u32 2773480762, .int .u32 1359893119, .int .u32 2600822924, .int .u32 528734635, .int .u32 1541459225] 23)) g0 (u32s startS) 23 := Blk.new' hg0.symm rfl
            refine ⟨⟨rfl, st0_wf.2.1, fun i hi => wordAt hb i hi⟩, (own_bin HP2.out.1.1 (by unfold maxLen; omega) HP2.out.1.2).below ((Below.refl _ _).alloc (Nat.le_refl _) _), own_cap HP2.out.1.1, HP2.out.2.1.alloc HP2.out.2.2.1 _, by have := HP2.out.2.2.1; simp; omega⟩
          clear hP hM hVs hg0 HP2
          obtain ⟨b, off, hA, hpc⟩ := HS.out.2.1.2.2.2.resolve_left (by have h := HM.out; omega)
          have HC : Hid (∀ i, i < Lp → Vs.cell? ⟨b, off + i, none⟩ = some (.int .u8 (P.getD i 0))) := hpc
          subst hA
          clear hpc
          have hMz : (M : Int) ≤ 2000 := by have := HM.out.1; omega
          have hNM : (Lp : Int) = 64 * M := by have := HM.out.1; omega
          go_loopw [6, 7] (fun s at' wr => ∃ m g cg : Nat, m ≤ M ∧ at' = .int .i64 (64 * (m : Int)) ∧ s = .slice (some ⟨g, 0, none⟩) 8 cg ∧ 8 ≤ cg ∧ Row8 wr g (blocksN P m) ∧ Below Vs.heap.size Vs wr)
            (fun _ at' _ => 64 * M - (intOf at').toNat)
          case atStart => exact ⟨0, g0, 8, by omega, rfl, rfl, by omega, HS.out.1, Below.refl _ _⟩
          case round =>
            obtain ⟨m, g, cg, hm, rfl, rfl, hcg, hrow, hbl⟩ := hrel
            have HI : Hid (8 ≤ cg ∧ Row8 wr g (blocksN P m) ∧ Below Vs.heap.size Vs wr) := ⟨hcg, hrow, hbl⟩
            clear hcg hrow hbl
            by_cases hmM : m < M
            · have hmM' : 64 * (m : Int) < (Lp : Int) := by omega
              have t1 : (64 * (m : Int)).toNat = 64 * m := by omega
              have t2 : (64 * (m : Int) + 64).toNat = 64 * m + 64 := by omega
              have k1 : ¬ C' = 64 * m := by have := HS.out.2.2.1; omega
              have k2 : 64 * (m : Int) + 64 ≤ C' := by have := HS.out.2.2.1; omega
              have k3 : (0 : Int) ≤ 64 * (m : Int) := by omega
              have k4 : 64 * m + 64 - 64 * m = 64 := by omega
              obtain ⟨blk, hblk⟩ : ∃ blk, blk = (P.drop (64 * m)).take 64 := ⟨_, rfl⟩
              have HB : Hid (blk.length = 64 ∧ (∀ i, i < 64 → wr.cell? ⟨b, off + 64 * m + i, none⟩ = some (.int .u8 (blk.getD i 0))) ∧ blk = (P.drop (64 * m)).take 64) := by
                have hlP : P.length = Lp := HS.out.2.1.1
                refine ⟨by rw [hblk, List.length_take, List.length_drop, hlP]; omega, fun i hi => ?_, hblk⟩
                have h := HC.out (64 * m + i) (by omega)
                rw [Nat.add_assoc, HI.out.2.2.cell (old_block h), h, hblk]
                simp [List.getD, List.getElem?_drop, hi]
              clear hblk
              go_wp2_with (go_at_call 57; refine (refmore_of g cg b (off + 64 * m) _ (blocksN P m) blk wr HI.out.2.1 HB.out.1 HB.out.2.1 HI.out.1).mono ?_; rintro e w' ⟨g', cg', rfl, hcg', hrow', hbl'⟩)
              have r1 : Row8 w' g' (blocksN P (m + 1)) := by
                rw [HB.out.2.2] at hrow'; exact hrow'
              have r2 : Below Vs.heap.size Vs w' := HI.out.2.2.trans (hbl'.mono HI.out.2.2.size)
              go_roundw
              case rel => exact ⟨m + 1, g', cg', by omega, by go_num, rfl, hcg', r1, r2⟩
              case measure => simp [intOf]; omega
            · have hmM' : (Lp : Int) ≤ 64 * (m : Int) := by omega
              have HE : Hid (m = M) := by have : m = M := by omega
                                          exact this
              go_wp2
              generalize hU : World.alloc _ _ = U
              obtain ⟨o, ho⟩ : ∃ o, o = wr.heap.size := ⟨_, rfl⟩
              rw [← ho]
              obtain ⟨R, hR⟩ : ∃ R, R = blocksN P m := ⟨_, rfl⟩
              have HU : Hid (Row8 U g R ∧ Blk U o (u8s (List.replicate 32 0)) 59 ∧ Blk U q (u8s (List.replicate 32 0)) 59 ∧ Below q w U ∧ g < o ∧ q < o) := by
                have hg := HI.out.2.1.lt
                have hVs := HS.out.2.2.2.1
                have hz := HI.out.2.2.size
                have hq1 := HS.out.2.2.2.2
                have hV := HQ.out
                have bwr : Below (q + 1) V wr := hVs.trans (HI.out.2.2.mono hq1)
                rw [← hU, hR]
                refine ⟨HI.out.2.1.below ((Below.refl _ _).alloc (Nat.le_refl _) _) hg, Blk.new' ho.symm (by kernel_rfl), (hV.2.1.below bwr (by omega)).alloc _, (hV.2.2.1.trans (bwr.mono (by omega))).alloc (by omega) _, by omega, by omega⟩
              have HR : Hid (R = blocksN (padded zs ++ bigI 8 ((n : Int) * 8)) ((n + 1 + zeroN n + 8) / 64)) := by
                have h := HM.out
                rw [h.2.1, HE.out, h.2.2.1] at hR; exact hR
              clear hU ho hR HI HS HC HM
              go_loopw [9] (fun i wr => ∃ k : Nat, k ≤ 32 ∧ i = .int .i64 k ∧ Row8 wr g R ∧ Blk wr o (u8s (outN R k)) 59 ∧ Blk wr q (u8s (List.replicate 32 0)) 59 ∧ Below q w wr)
                (fun i _ => 32 - (intOf i).toNat)
              case atStart => exact ⟨0, by omega, rfl, HU.out.1, HU.out.2.1, HU.out.2.2.1, HU.out.2.2.2.1⟩
              case round =>
                obtain ⟨k, hk, rfl, hrow, hbo, hbq, hbl⟩ := hrel
                have HI : Hid (Row8 wr g R ∧ Blk wr o (u8s (outN R k)) 59 ∧ Blk wr q (u8s (List.replicate 32 0)) 59 ∧ Below q w wr) := ⟨hrow, hbo, hbq, hbl⟩
                clear hrow hbo hbq hbl
                by_cases hk32 : k < 32
                · have hk32' : (k : Int) < 32 := by omega
                  obtain ⟨d, hd⟩ : ∃ d, d = k / 4 := ⟨_, rfl⟩
                  obtain ⟨r, hr⟩ : ∃ r, r = k % 4 := ⟨_, rfl⟩
                  have HD : Hid (d = k / 4 ∧ r = k % 4) := ⟨hd, hr⟩
                  have d1 : (k : Int).tdiv 4 = d := by rw [Int.tdiv_eq_ediv_of_nonneg (by omega)]; omega
                  have d2 : (k : Int) / 4 = d := by omega
                  have r1 : (k : Int).tmod 4 = r := by rw [Int.tmod_eq_emod_of_nonneg (by omega)]; omega
                  have r2 : (k : Int) % 4 = r := by omega
                  have d8 : (d : Int) < 8 := by omega
                  have r4 : (r : Int) ≤ 3 := by omega
                  have s0 : (0 : Int) ≤ 24 - (r : Int) * 8 := by omega
                  have s1 : 24 - (r : Int) * 8 ≤ 64 := by omega
                  have s2 : (24 - (r : Int) * 8).toNat = 24 - r * 8 := by omega
                  have s3 : IntKind.i64.wrap (24 - (r : Int) * 8) = 24 - (r : Int) * 8 := wrap_small _ (by omega) (by omega)
                  have s4 : IntKind.u64.wrap (24 - (r : Int) * 8) = 24 - (r : Int) * 8 := by rw [IntKind.wrap_u64]; omega
                  have cR := HI.out.1.2.2 d (by omega)
                  have FR := getD_fits HI.out.1.2.1 d
                  obtain ⟨x, hx⟩ : ∃ x, x = R.getD d 0 := ⟨_, rfl⟩
                  rw [← hx] at cR FR
                  have HX : Hid (x = R.getD (k / 4) 0) := by rw [hx, hd]; rfl
                  obtain ⟨x0, x1⟩ := FR
                  have cO := byteAt HI.out.2.1 k (by rw [outN_length]; exact hk32)
                  have fO := HI.out.2.1.frozen k
                  clear hd hr hx
                  go_wp2
                  go_roundw
                  case rel =>
                    refine ⟨k + 1, by omega, by go_num, out_next HI.out.1 HI.out.2.1 HI.out.2.2.1 HI.out.2.2.2 HU.out.2.2.2.2.1 HU.out.2.2.2.2.2 ?_⟩
                    rw [← HX.out, ← HD.out.2]
                  case measure => simp [intOf]; omega
                · have hge : (32 : Int) ≤ k := by omega
                  obtain ⟨D, hD⟩ : ∃ D, D = outN R k := ⟨_, rfl⟩
                  have HD : Hid (D = outN (blocksN (padded zs ++ bigI 8 ((n : Int) * 8)) ((n + 1 + zeroN n + 8) / 64)) 32 ∧ D.length = 32 ∧ Blk wr o (u8s D) 59) := by
                    refine ⟨?_, by rw [hD, outN_length], by rw [hD]; exact HI.out.2.1⟩
                    rw [hD, show k = 32 by omega, HR.out]
                  clear hD
                  have hin : (Tryd.prog.info? 59).map (·.size) = some (u8s D).length := by rw [u8s_length, HD.out.2.1]; exact Tryd.info_digest
                  have HT : Hid (wr.there q 0 (u8s D).toArray.size) := HI.out.2.2.1.there 0 _ (by simp [u8s_length, HD.out.2.1])
                  go_wp2_with (first
                    | (refine wpList_load_mid rfl 59 (.tmp 8) rfl o 0 rfl (u8s D) _ HD.out.2.2.whole Tryd.underlying59 rfl hin ?_)
                    | (refine wpList_store_mid rfl 59 (.tmp 2) (.tmp 72) rfl q 0 (u8s D).toArray rfl rfl HT.out (by simpa using hin) (all_oneCell_toArray (u8s_one _)) ?_))
                  have b9 := HI.out.2.2.1.setAll (vs := u8s D) (by simp [u8s_length, HD.out.2.1])
                  refine bodyPost_ret (v := .agg (u8s D).toArray) (results_cell_one (p := 2) (ty := 59) rfl _ _ q _ _ _ rfl b9 Tryd.underlying59 rfl hin) rfl ⟨by rw [HD.out.1], ?_⟩
                  rw [← HQ.out.1]
                  exact below_setCells (by omega) _ _ _ HI.out.2.2.2
    · have e1 : ¬ (N : Int).tmod 64 = 56 := by rw [Int.tmod_eq_emod_of_nonneg (by omega)]; have h := HI.out.1; unfold zeroN at hlast h; omega
      have e2 : ¬ (N : Int) % 64 = 56 := by have h := HI.out.1; unfold zeroN at hlast h; omega
      go_wp2_with (at_builtin; refine wpList_append_bin rfl (.tmp 20) (.tmp 21) rfl (q + 1) A N C (zs ++ [128] ++ List.replicate z 0) rfl (HI.out.2.1.1.alloc _) (some ⟨wr.heap.size, 0, none⟩) 1 1 [0] rfl (byte_bin wr 0 (by unfold Fits8; omega) _ rfl) (fun h => by cases h) (by omega) (by have h := HI.out.2.2.2; simp; omega) ?_; intro A' C' u3 ow3 bu3)
      have r1 : Own u3 (q + 1) A' (n + 1 + (z + 1)) C' (zs ++ [128] ++ List.replicate (z + 1) 0) := by
        have e : zs ++ [128] ++ List.replicate (z + 1) 0 = zs ++ [128] ++ List.replicate z 0 ++ [0] := by rw [List.replicate_succ']; simp
        rw [e, show n + 1 + (z + 1) = N + 1 by omega]
        refine ⟨ow3, fun y hy => ?_⟩
        rcases List.mem_append.1 hy with h | h
        · exact HI.out.2.1.2 y h
        · simp at h; subst h; unfold Fits8; omega
      have r2 : Below (q + 1) V u3 := HI.out.2.2.1.trans (((Below.refl _ _).alloc HI.out.2.2.2 _).trans bu3)
      clear ow3 bu3
      go_wp2
      go_roundw
      case rel => exact ⟨z + 1, A', C', by have h := HI.out.1; omega, by first | rfl | (rw [hN]; rfl), r1, r2⟩
      case measure => simp only [lenOf]; have h := HI.out.1; omega
end Go.Proofs.YtpliokkmiijieaaDoor
