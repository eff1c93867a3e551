/- Texts of this seat, one behind the other: WRefT, DkDec, DkOpen. -/
import Derived.Test.YteokhkoaieibmaaJ17
import Derived.Test.YteokhkoaieibmaaJ11
import Derived.Test.YteokhkoaieibmaaJ15
/- What one call of the document's own Take does. -/
namespace Go.Proofs.Yteokhkoaieibmaa
open Go.RowKit
set_option linter.unusedVariables false
set_option maxRecDepth 4000

theorem drop_at (xs : List Int) (o t : Nat) : (xs.drop o).getD t 0 = xs.getD (o + t) 0 := by simp [List.getD]
set_option maxHeartbeats 2000000 in
theorem refTake_of (a : Option Addr) (n c : Nat) (xs : List Int) (b : Option Addr) (m d : Nat) (ws : List Int) (w : World) (hx : BIn w a n xs) (hnil : a = none → n = 0 ∧ c = 0) (hnc : n ≤ c) (hy : NIn .i64 w b m ws) (hn : n ≤ 100000) (hm : m ≤ 100000) :
    Calls Try.prog 45 #[.slice a n c, .slice b m d] w fun e w' => ∃ A k C R r D, e = .returned (.tuple #[.slice A k C, .slice R r D, .bool (decide (offL ws ≤ xs.length))]) ∧ w'.ownsRow w.heap.size 24 1 (.slice A k C) k (kInts .u64 (takeV xs ws)) ∧ w'.ownsRow w.heap.size 5 1 (.slice R r D) r (u8s (takeR xs ws)) ∧ Below w.heap.size w w' := by
  obtain ⟨q, hq⟩ : ∃ q, q = w.heap.size := ⟨_, rfl⟩
  have H : Hid (BIn w a n xs ∧ NIn .i64 w b m ws ∧ q = w.heap.size ∧ (a = none → n = 0 ∧ c = 0) ∧ n ≤ c) := ⟨hx, hy, hq, hnil, hnc⟩
  rw [← hq]
  clear hx hy hq hnil hnc
  go_enter Try.func45, Try.ntmps45
  go_wp2
  go_loopw [7, 8, 9] (fun s o i wr => ∃ (j : Nat) (A : Option Addr) (C off : Nat), j ≤ m ∧ i = .int .i64 j ∧ s = .slice A j C ∧ o = .int .i64 off ∧ off = offL (ws.take j) ∧ off ≤ n ∧ wr.ownsRow q 24 1 (.slice A j C) j (kInts .u64 (valL xs (ws.take j))) ∧ Below q w wr)
    (fun _ _ i _ => m - (intOf i).toNat)
  case atStart => exact ⟨0, none, 0, 0, by omega, rfl, rfl, rfl, rfl, by omega, World.ownsRow_nil _ _ _ _, Below.refl _ _⟩
  case round =>
    obtain ⟨j, A, C, off, hj, rfl, rfl, rfl, hoff, hon, ow, bl⟩ := hrel
    have HK : Hid (off = offL (ws.take j) ∧ wr.ownsRow q 24 1 (.slice A j C) j (kInts .u64 (valL xs (ws.take j))) ∧ Below q w wr ∧ Below w.heap.size w wr ∧ q ≤ wr.heap.size) := ⟨hoff, ow, bl, by rw [← H.out.2.2.1]; exact bl, by have := bl.size; rw [H.out.2.2.1] at *; exact this⟩
    clear hoff ow bl
    by_cases hlt : j < m
    · have hlt' : (j : Int) < m := by omega
      obtain ⟨b1, o1, rfl, hc1⟩ := H.out.2.1.2.2.2.resolve_left (by omega)
      have cw : wr.cell? ⟨b1, o1 + j, none⟩ = some (.int .i64 (ws.getD j 0)) := by rw [HK.out.2.2.2.1.cell (old_block (hc1 j (by omega)))]; exact hc1 j (by omega)
      have hnx := take_next ws (i := j) (by rw [H.out.2.1.1]; omega)
      clear hc1
      obtain ⟨X, eX⟩ : ∃ X, X = ws.getD j 0 := ⟨_, rfl⟩
      rw [← eX] at cw hnx
      have HX : Hid (ws.take (j + 1) = ws.take j ++ [X]) := hnx
      clear eX hnx
      obtain ⟨K, hK⟩ : ∃ K, K = wd X := ⟨_, rfl⟩
      have cS := width_of X wr
      have hw8 := wd_le X
      have hw1 := wd_pos X
      rw [← hK] at cS hw8 hw1
      have HW : Hid (K = wd X) := hK
      clear hK
      by_cases hen : K ≤ n - off
      · have hen' : (K : Int) ≤ n - off := by omega
        obtain ⟨wk, rfl⟩ : ∃ wk, wk = wr := ⟨_, rfl⟩
        obtain ⟨b2, o2, rfl, hc2⟩ := H.out.1.2.2.2.resolve_left (by omega)
        have HC : Hid (∀ i, i < n → wk.cell? ⟨b2, o2 + i, none⟩ = some (.int .u8 (xs.getD i 0))) := fun i hi => by rw [HK.out.2.2.2.1.cell (old_block (hc2 i hi))]; exact hc2 i hi
        clear hc2
        go_wp2_with (go_at_call 69; refine cS.mono ?_; rintro e wk ⟨rfl, rfl⟩)
        go_loopw [11, 12] (fun v i wr => ∃ t : Nat, t ≤ K ∧ i = .int .i64 t ∧ v = .int .u64 (numI ((xs.drop off).take t)) ∧ wr = wk)
          (fun _ i _ => K - (intOf i).toNat)
        case atStart => exact ⟨0, by omega, rfl, rfl, rfl⟩
        case round =>
          obtain ⟨t, ht, rfl, rfl, rfl⟩ := hrel
          have hdf : ∀ z ∈ xs.drop off, Fits8 z := fun z hz => H.out.1.2.2.1 z (List.mem_of_mem_drop hz)
          have hdl : (xs.drop off).length = n - off := by rw [List.length_drop, H.out.1.1]
          by_cases htk : t < K
          · have htk' : (t : Int) < K := by omega
            have hcj := HC.out (off + t) (by omega)
            have hx : Fits8 (xs.getD (off + t) 0) := byte_fits H.out.1.2.2.1 (off + t)
            obtain ⟨x, ex⟩ : ∃ x, x = xs.getD (off + t) 0 := ⟨_, rfl⟩
            rw [← ex] at hcj hx
            obtain ⟨r0, r1⟩ := numI_range t ((xs.drop off).take t) (by rw [List.length_take, hdl]; omega) (fun z hz => hdf z (List.mem_of_mem_take hz))
            have r2 : numI ((xs.drop off).take t) < 72057594037927936 := by
              have := p256 t (by omega)
              omega
            have hnx : numI ((xs.drop off).take t) * 256 + x = numI ((xs.drop off).take (t + 1)) := by
              rw [take_next (xs.drop off) (by rw [hdl]; omega), numI_snoc, drop_at, ex]
            obtain ⟨N, eN⟩ : ∃ N, N = numI ((xs.drop off).take t) := ⟨_, rfl⟩
            rw [← eN] at r0 r2 hnx ⊢
            have hor := shl8 r0 r2 hx
            have HE : Hid (N * 256 + x = numI ((xs.drop off).take (t + 1))) := hnx
            have hin : (off : Int) + t < n := by omega
            obtain ⟨P, hP⟩ : ∃ P : Nat, P = off + t := ⟨_, rfl⟩
            have hP' : (off : Int) + t = P := by omega
            rw [← hP] at hcj
            have hPn : (P : Int) < n := by omega
            have hP0 : (0 : Int) ≤ P := by omega
            clear hnx eN ex r1 hdf hdl hP hin
            obtain ⟨hx0, hx1⟩ := hx
            go_wp2
            go_roundw
            case rel => exact ⟨t + 1, by omega, by go_num, by rw [← HE.out], trivial⟩
            case measure => simp [intOf] <;> omega
          · have hge : (K : Int) ≤ t := by omega
            have htK : t = K := by omega
            have hNf : FitsU (numI ((xs.drop off).take t)) := numI_u64 (by rw [List.length_take]; omega) (fun z hz => hdf z (List.mem_of_mem_take hz))
            have eN' : [numI ((xs.drop off).take t)] = [numI (((xs.drop (offL (ws.take j)))).take (wd X))] := by rw [htK, ← HW.out, HK.out.1]
            obtain ⟨N, eN⟩ : ∃ N, N = numI ((xs.drop off).take t) := ⟨_, rfl⟩
            rw [← eN] at hNf eN' ⊢
            have HV : Hid (FitsU N ∧ [N] = [numI (((xs.drop (offL (ws.take j)))).take (wd X))]) := ⟨hNf, eN'⟩
            clear eN hNf eN' htK hdf hdl
            go_wp2_with (at_builtin; refine wpList_append_nin (k := .u64) (size := 8) Try.underlying86 Try.zero_u64 (by decide) rfl (.tmp 46) (.tmp 48) rfl q A j C (valL xs (ws.take j)) rfl (HK.out.2.1.alloc _) (some ⟨wr.heap.size, 0, none⟩) 1 1 [N] rfl (new_nin rfl rfl rfl (by intro z hz; simp only [List.mem_cons, List.not_mem_nil, or_false] at hz; subst hz; exact wfU HV.out.1) (by unfold maxLen; omega)) (fun h => by cases h) (by omega) (by have := HK.out.2.2.2.2; simp; omega) ?_; intro A2 C2 w2 ow2 bl2)
            go_roundw
            case rel =>
              have e1 : valL xs (ws.take (j + 1)) = valL xs (ws.take j) ++ [N] := by rw [HX.out, valL_snoc, HV.out.2]
              refine ⟨j + 1, A2, C2, off + K, by omega, by go_num, by rfl, by go_num, by rw [HX.out, offL_snoc, ← HW.out, HK.out.1], by omega, by rw [e1]; exact ow2, (HK.out.2.2.1.alloc HK.out.2.2.2.2 _).trans bl2⟩
            case measure => simp [intOf] <;> omega
      · have hen' : (n : Int) - off < K := by omega
        have hno : ¬ offL ws ≤ xs.length := by
          have h1 := offL_take ws (j + 1)
          rw [HX.out, offL_snoc, ← HW.out, ← HK.out.1] at h1
          rw [H.out.1.1]
          omega
        have HF : Hid (¬ offL ws ≤ xs.length) := hno
        clear hno
        go_wp2_with (go_at_call 69; refine cS.mono ?_; rintro e wr ⟨rfl, rfl⟩)
        go_ret3
        refine ⟨none, 0, 0, none, 0, 0, ?_⟩
        rw [show takeV xs ws = [] by unfold takeV; rw [if_neg HF.out], show takeR xs ws = [] by unfold takeR; rw [if_neg HF.out], decide_eq_false HF.out]
        exact ⟨rfl, World.ownsRow_nil _ _ _ _, World.ownsRow_nil _ _ _ _, HK.out.2.2.1⟩
    · have hge : (m : Int) ≤ j := by omega
      have hjm : j = m := by omega
      subst hjm
      have eT : ws.take j = ws := List.take_of_length_le (by rw [H.out.2.1.1]; exact Nat.le_refl _)
      rw [eT] at HK
      clear hlt hj
      obtain ⟨a2, hsl, hb2, hn2⟩ := sliced_bin H.out.1 (k := off) hon H.out.2.2.2.2
      have H2 : Hid (BIn wr a2 (n - off) (xs.drop off) ∧ (a2 = none → n - off = 0 ∧ c - off = 0)) := by
        refine ⟨hb2.below HK.out.2.2.2.1, fun e => ?_⟩
        by_cases ha : a = none
        · have := H.out.2.2.2.1 ha; omega
        · exact absurd e (hn2 ha)
      have hsr : (Instr.slice 39 (.slice a n c) (some (.int .i64 (off : Int))) none none).run Try.prog wr = .ok (.slice a2 (n - off) (c - off)) wr := by
        rw [run_slice_l (P := Try.prog) wr 39 a n c Try.underlying39 .i64 off (by omega) (by omega)]
        have : (sizeOf (Try.prog.elem 39)).run Try.prog wr = .ok 1 wr := by kernel_rfl
        rw [this]
        simp only [Result.andThen, Int.toNat_natCast, hsl]
      clear hb2 hn2 hsl eT
      go_wp2_with (at_builtin; refine wpList_append_bin rfl (.tmp 53) (.tmp 56) rfl wr.heap.size none 0 0 [] rfl (World.ownsRow_nil _ _ _ _) a2 (n - off) (c - off) (xs.drop off) rfl H2.out.1 H2.out.2 (by omega) (Nat.le_refl _) ?_; intro R D w2 ow2 bl2)
      go_ret3
      have hyes : offL ws ≤ xs.length := by rw [H.out.1.1, ← HK.out.1]; exact hon
      refine ⟨A, j, C, R, 0 + (n - off), D, ?_⟩
      rw [show takeV xs ws = valL xs ws by unfold takeV; rw [if_pos hyes], show takeR xs ws = xs.drop (offL ws) by unfold takeR; rw [if_pos hyes], decide_eq_true hyes, ← HK.out.1]
      refine ⟨by simp, own_belowN HK.out.2.1 bl2 (Nat.le_refl _), own_lowerN ow2 HK.out.2.2.2.2, HK.out.2.2.1.trans (bl2.mono HK.out.2.2.2.2)⟩
end Go.Proofs.Yteokhkoaieibmaa

/- What one call of the document's own Decode does. -/
namespace Go.Proofs.Yteokhkoaieibmaa
open Go.RowKit
set_option linter.unusedVariables false
set_option maxRecDepth 4000

theorem rows_apart {w : World} {b1 b2 s1 s2 : Nat} {t e : TypeId} {v u : Value} {n m : Nat} {xs ys : List Value} (h : w.ownsRow b1 t s1 v n xs) (k : w.ownsRow b2 e s2 u m ys) (hte : t ≠ e) : v.ownBlock = none ∨ v.ownBlock ≠ u.ownBlock := by
  rcases h.2 with ⟨hv, _⟩ | ⟨g, cap, cur, hv, hb, hg, _⟩
  · left; rw [hv]; rfl
  · right
    rcases k.2 with ⟨hu, _⟩ | ⟨g', cap', cur', hu, hb', hg', _⟩
    · rw [hv, hu]; simp [Value.ownBlock]
    · rw [hv, hu]
      intro e1
      simp only [Value.ownBlock, Option.some.injEq] at e1
      subst e1
      rw [hg] at hg'
      cases hg'
      exact hte rfl
theorem row_kept {W w' : World} {o : Obj} {b1 b2 s1 s2 : Nat} {t e : TypeId} {v u : Value} {n m : Nat} {xs ys : List Value} (h : W.ownsRow b1 t s1 v n xs) (k : W.ownsRow b2 e s2 u m ys) (hte : t ≠ e) (hg : (W.alloc o).grownBy w' u.ownBlock) : w'.ownsRow b1 t s1 v n xs := (h.alloc o).kept hg (rows_apart (h.alloc o) (k.alloc o) hte)
def DkDecGot (w : World) (s : Sh) (l : List (List Int)) (e : Ending) (w' : World) : Prop :=
  ∃ A n C, e = .returned (.tuple #[.agg #[.int .u64 (dkS s l), .slice A n C], .int .i64 (dkE s l)]) ∧ KIn w' A n (dkX s l) ∧ n ≤ C ∧ Below w.heap.size w w'
/-- The result's cell is emptied. -/
theorem dk_emptied {q : Nat} {w V : World} {s : Sh} {l : List (List Int)} {q5 : Nat} {seq : Int} {A : Option Addr} {N C : Nat} {xs : List Pl} (h : OSt q w V q5 s seq A N C xs) (hno : ¬ IsK s l) :
    Blk ((V.setCell ⟨q + 1, 0, none⟩ (.int .u64 0)).setCell ⟨q + 1, 1, none⟩ (.slice none 0 0)) (q + 1) [.int .u64 0, .slice none 0 0] 27 ∧ DkDecGot w s l (.returned (.tuple #[.agg #[.int .u64 0, .slice none 0 0], .int .i64 141])) ((V.setCell ⟨q + 1, 0, none⟩ (.int .u64 0)).setCell ⟨q + 1, 1, none⟩ (.slice none 0 0)) := by
  refine ⟨(h.res.set 0 _).set 1 _, none, 0, 0, ?_⟩
  unfold dkS dkE dkX
  rw [if_neg hno, if_neg hno, if_neg hno]
  have hq := h.heap
  exact ⟨rfl, kin_none _, Nat.le_refl _, by rw [← hq]; exact (h.bel.setCell (p := ⟨q + 1, 0, none⟩) (by show q ≤ q + 1; omega) _).setCell (p := ⟨q + 1, 1, none⟩) (by show q ≤ q + 1; omega) _⟩
theorem tv_hk {bs : List Int} (h : 26 ≤ bs.length) : takeV bs hkW = [rkM bs, rkS bs, rkI bs, rkH bs, rkSeq bs, rkN bs] ∧ takeR bs hkW = bs.drop 26 := by
  unfold takeV takeR
  rw [off_hk, if_pos h, if_pos h, val_hk]
  exact ⟨rfl, rfl⟩
theorem tv_pl {ys : List Int} (h : 16 ≤ ys.length) : takeV ys plW = plV (rkP ys) ∧ takeR ys plW = ys.drop 16 := by
  unfold takeV takeR
  rw [off_pl, if_pos h, if_pos h, val_pl]
  exact ⟨rfl, rfl⟩
theorem own_capP {w : World} {base : Nat} {a : Option Addr} {n c : Nat} {zs : List Value} (h : w.ownsRow base 83 4 (.slice a n c) n zs) : n ≤ c := by
  rcases h.2 with ⟨hv, hn⟩ | ⟨g, cap, cur, hv, hb, hg, hc, _⟩
  · omega
  · cases hv; exact hc
theorem dk_told {q : Nat} {w V : World} {s : Sh} {l : List (List Int)} {A : Option Addr} {N C : Nat} {S : Int} {ps : List Pl} (h : OSt q w V (q + 2) s S A N C ps) (hS : S = allSeq l) (hps : ps = allPs l) (hk : KIn V A N ps) (hy : IsK s l) :
    Blk ((V.setCell ⟨q + 1, 0, none⟩ (.int .u64 S)).setCell ⟨q + 1, 1, none⟩ (.slice A N C)) (q + 1) [.int .u64 S, .slice A N C] 27 ∧ DkDecGot w s l (.returned (.tuple #[.agg #[.int .u64 S, .slice A N C], .int .i64 0])) ((V.setCell ⟨q + 1, 0, none⟩ (.int .u64 S)).setCell ⟨q + 1, 1, none⟩ (.slice A N C)) := by
  refine ⟨(h.res.set 0 _).set 1 _, A, N, C, ?_⟩
  unfold dkS dkE dkX
  rw [if_pos hy, if_pos hy, if_pos hy, ← hS, ← hps]
  have hq := h.heap
  exact ⟨rfl, (hk.set (st_not h.res) 0 _).set (st_not (h.res.set 0 (.int .u64 S))) 1 _, own_capP h.own, by rw [← hq]; exact (h.bel.setCell (p := ⟨q + 1, 0, none⟩) (by show q ≤ q + 1; omega) _).setCell (p := ⟨q + 1, 1, none⟩) (by show q ≤ q + 1; omega) _⟩
/-! ### The state between two places -/
structure DSt (q : Nat) (w wr : World) (s : Sh) (seq : Int) (A : Option Addr) (N C : Nat) (xs : List Pl) (g Ch : Nat) (hs : List Int) (R : Option Addr) (m F : Nat) (ys : List Int) : Prop where
  o : OSt q w wr (q + 2) s seq A N C xs
  hd : wr.ownsRow (q + 3) 24 1 (.slice (some ⟨g, 0, none⟩) 6 Ch) 6 (kInts .u64 hs)
  rest : wr.ownsRow (q + 3) 5 1 (.slice R m F) m (u8s ys)
section
variable {q : Nat} {w wr w' : World} {s : Sh} {seq : Int} {A : Option Addr} {N C : Nat} {xs : List Pl} {g Ch : Nat} {hs : List Int} {R : Option Addr} {m F : Nat} {ys : List Int}
theorem DSt.below (h : DSt q w wr s seq A N C xs g Ch hs R m F ys) (hb : Below wr.heap.size wr w') : DSt q w w' s seq A N C xs g Ch hs R m F ys := ⟨h.o.below hb, own_under h.hd hb, own_under h.rest hb⟩
theorem DSt.left (h : DSt q w wr s seq A N C xs g Ch hs R m F ys) {R' : Option Addr} {m' F' : Nat} {ys' : List Int} (hr : wr.ownsRow (q + 3) 5 1 (.slice R' m' F') m' (u8s ys')) : DSt q w wr s seq A N C xs g Ch hs R' m' F' ys' := ⟨h.o, h.hd, hr⟩
theorem DSt.more {A' : Option Addr} {C' : Nat} {x : Pl} {o : Obj} (h : DSt q w wr s seq A N C xs g Ch hs R m F ys) (ho : w'.ownsRow (q + 3) 83 4 (.slice A' (N + 1) C') (N + 1) (plC (xs ++ [x]))) (hb : Below (q + 3) wr w') (hg : (wr.alloc o).grownBy w' (Value.ownBlock (.slice A N C))) : DSt q w (w'.setCell ⟨q + 2, 1, none⟩ (.slice A' (N + 1) C')) s seq A' (N + 1) C' (xs ++ [x]) g Ch hs R m F ys := by
  have rc' := h.o.rc.below hb (by omega)
  have h1 := (h.hd.alloc o).kept hg (rows_apart (h.hd.alloc o) (h.o.own.alloc o) (by decide))
  have h2 := (h.rest.alloc o).kept hg (rows_apart (h.rest.alloc o) (h.o.own.alloc o) (by decide))
  exact ⟨h.o.more ho hb, own_set rc' (by decide) h1 1 _, own_set rc' (by decide) h2 1 _⟩
theorem DSt.at5 {a0 a1 a2 a3 a4 a5 : Int} (h : DSt q w wr s seq A N C xs g Ch [a0, a1, a2, a3, a4, a5] R m F ys) : wr.cell? ⟨g, 5, none⟩ = some (.int .u64 a5) := (h.hd.cellAt 5 (by decide)).trans rfl
end
set_option maxHeartbeats 4000000 in
theorem dkDecode_of (s : Sh) (a : Option Addr) (n c : Nat) (l : List (List Int)) (w : World) (hz : -9223372036854775808 ≤ s.z) (hl : BsIn w a n l) (hn : n ≤ 5000) (hb : ∀ b ∈ l, b.length ≤ 5000) :
    Calls Try.prog 17 #[.agg (shL s).toArray, .slice a n c] w (DkDecGot w s l) := by
  obtain ⟨q, hq⟩ : ∃ q, q = w.heap.size := ⟨_, rfl⟩
  have H0 : Hid (OSt q w (((w.alloc (.cells #[.int .i64 s.z, .int .i64 s.zb, .int .i64 s.b, .int .i64 s.r] 23)).alloc (.cells #[.int .u64 0, .slice none 0 0] 27)).alloc (.cells #[.int .u64 0, .slice none 0 0] 27)) (q + 2) s 0 none 0 0 []) :=
    ⟨((Blk.new' hq.symm rfl).alloc _).alloc _, (Blk.new' (by simp [hq]) rfl).alloc _, Blk.new' (by simp [hq]) rfl, World.ownsRow_nil _ _ _ _, (((Below.refl q w).alloc (by omega) _).alloc (by simp [hq]) _).alloc (by simp [hq]; omega) _, Nat.le_refl _, hq⟩
  have H : Hid (BsIn w a n l ∧ q = w.heap.size ∧ -9223372036854775808 ≤ s.z ∧ (∀ b ∈ l, b.length ≤ 5000) ∧ ∀ b ∈ l, ∀ z ∈ b, Fits8 z) := ⟨hl, hq, hz, hb, bs_fits hl⟩
  clear hl hz hb
  simp only [shL]
  go_enter Try.func17, Try.ntmps17
  go_upto_region 2 with fail
  rw [← hq]
  have e2 : q + 1 + 1 = q + 2 := rfl
  rw [e2]
  clear hq e2
  generalize hW : World.alloc (World.alloc (World.alloc w _) _) _ = W at H0 ⊢
  clear hW
  go_wp2
  go_loopw [7] (fun x wr => ∃ (i : Nat) (A : Option Addr) (N C : Nat), x = .int .i64 i ∧ i ≤ n ∧ OSt q w wr (q + 2) s (allSeq (l.take i)) A N C (allPs (l.take i)) ∧ N ≤ 312 * i) (fun x _ => n - (intOf x).toNat)
  case atStart => exact ⟨0, none, 0, 0, rfl, Nat.zero_le _, H0.out, Nat.zero_le _⟩
  case round =>
    obtain ⟨i, A, N, C, rfl, hi, st, hN⟩ := hrel
    rcases Nat.lt_or_ge i n with hlt | hge
    · obtain ⟨D, hD⟩ : ∃ D, l[i]? = some D := ⟨l[i]'(by have := H.out.1.1; omega), by simp⟩
      have hDm := List.mem_of_getElem? hD
      have blw : Below w.heap.size w wr := by rw [← H.out.2.1]; exact st.bel
      obtain ⟨b', off, A1, L1, C1, ha, cD, hBI, hnil, hcap, _⟩ := (H.out.1.below blw).at hD
      subst ha
      have hD5 := H.out.2.2.2.1 D hDm
      have hDf := H.out.2.2.2.2 D hDm
      obtain ⟨S0, hS0⟩ : ∃ S0, S0 = allSeq (l.take i) := ⟨_, rfl⟩
      obtain ⟨xs, hxs⟩ : ∃ xs, xs = allPs (l.take i) := ⟨_, rfl⟩
      rw [← hS0, ← hxs] at st
      have hi' : (i : Int) < n := by omega
      have hwi : IntKind.i64.wrap ((i : Int) + 1) = (i : Int) + 1 := by rw [IntKind.wrap_i64]; omega
      have HI : Hid (OSt q w wr (q + 2) s S0 A N C xs ∧ BIn wr A1 L1 D ∧ (A1 = none → L1 = 0 ∧ C1 = 0) ∧ L1 ≤ C1 ∧ l[i]? = some D ∧ D ∈ l ∧ D.length = L1 ∧ L1 ≤ 5000 ∧ (∀ z ∈ D, Fits8 z) ∧ xs = allPs (l.take i) ∧ N ≤ 312 * i) := ⟨st, hBI, hnil, hcap, hD, hDm, hBI.1, by rw [← hBI.1]; exact hD5, hDf, hxs, hN⟩
      clear st hBI hnil hcap hD hDm hD5 hDf hxs hN blw hS0
      go_wp2_with fail
      refine (refTake_of A1 L1 C1 D (some ⟨wr.heap.size, 0, none⟩) 6 6 hkW _ (HI.out.2.1.alloc _) HI.out.2.2.1 HI.out.2.2.2.1 (nin_hk rfl) (by have := HI.out.2.2.2.2.2.2.2.1; omega) (by omega)).mono ?_
      rw [off_hk, HI.out.2.2.2.2.2.2.1]
      rintro e V ⟨Ah, kh, Ch, R, r, F, rfl, ow, ow3, bl⟩
      have blV : Below wr.heap.size wr V := ((Below.refl _ _).alloc (Nat.le_refl _) _).trans (bl.mono (by simp))
      have stV := HI.out.1.below blV
      have hq3 : q + 3 ≤ wr.heap.size := by have := HI.out.1.rc.lt; omega
      by_cases h26 : 26 ≤ L1
      rotate_left
      · rw [decide_eq_false h26]
        have hno : ¬ IsK s l := fun h => by
          have h1 := (isK_rd h H.out.2.2.2.2).2.2 D HI.out.2.2.2.2.2.1
          have h2 := h1.2.2
          have := HI.out.2.2.2.2.2.2.1
          omega
        have d0 : V.cell? ⟨q + 1, 0, none⟩ = some (.int .u64 0) := stV.res.cell 0
        have d1 : V.cell? ⟨q + 1, 1, none⟩ = some (.slice none 0 0) := stV.res.cell 1
        have z0 := stV.res.frozen 0
        have z1 := stV.res.frozen 1
        have HE : Hid (Blk ((V.setCell ⟨q + 1, 0, none⟩ (.int .u64 0)).setCell ⟨q + 1, 1, none⟩ (.slice none 0 0)) (q + 1) [.int .u64 0, .slice none 0 0] 27 ∧ DkDecGot w s l (.returned (.tuple #[.agg #[.int .u64 0, .slice none 0 0], .int .i64 141])) ((V.setCell ⟨q + 1, 0, none⟩ (.int .u64 0)).setCell ⟨q + 1, 1, none⟩ (.slice none 0 0))) := dk_emptied stV hno
        clear hno h26 ow ow3 bl blV stV hq3
        go_wp2
        exact bodyPost_ret (results_cell_two (p := 4) (u := 5) (ty := 27) rfl _ _ (q + 1) _ _ _ rfl HE.out.1 Try.underlying27 rfl Try.info_state _ rfl) rfl HE.out.2
      · rw [decide_eq_true h26]
        have hDl := HI.out.2.2.2.2.2.2.1
        rw [(tv_hk (bs := D) (by omega)).1] at ow
        rw [(tv_hk (bs := D) (by omega)).2] at ow3
        obtain ⟨g, rfl, hk, hg, hkC, hc⟩ := cown_at ow (by simp)
        have hk6 : kh = 6 := by simpa using hk
        subst hk6
        have c4 : V.cell? ⟨g, 4, none⟩ = some (.int .u64 (rkSeq D)) := hc 4 (by simp)
        obtain ⟨Sq, hSq⟩ : ∃ Sq, Sq = rkSeq D := ⟨_, rfl⟩
        have hNf := rkN_fits HI.out.2.2.2.2.2.2.2.2.1
        obtain ⟨M, hM⟩ : ∃ M : Nat, rkN D = M := ⟨(rkN D).toNat, by have := hNf.1; omega⟩
        rw [← hSq] at c4 ow
        rw [hM] at ow
        have hM6 : M < 65536 := by have := hNf.2; omega
        obtain ⟨T0, T1, T2, T3, htt⟩ : ∃ T0 T1 T2 T3, [T0, T1, T2, T3, Sq, (M : Int)] = [rkM D, rkS D, rkI D, rkH D, Sq, (M : Int)] := ⟨_, _, _, _, rfl⟩
        rw [← htt] at ow
        have hr : r = L1 - 26 := by have := ow3.1; rw [u8s_length, List.length_drop, hDl] at this; omega
        have k0 : V.cell? ⟨q + 2, 0, none⟩ = some (.int .u64 S0) := stV.rc.cell 0
        have zk0 := stV.rc.frozen 0
        have HV : Hid (DSt q w (V.setCell ⟨q + 2, 0, none⟩ (.int .u64 Sq)) s Sq A N C (xs ++ rkL 0 (D.drop 26)) g Ch [T0, T1, T2, T3, Sq, (M : Int)] R r F (D.drop (26 + 16 * 0)) ∧ Sq = rkSeq D ∧ rkN D = M ∧ r = L1 - 26 ∧ M < 65536 ∧ rkPs D = rkL M (D.drop 26) ∧ 26 ≤ L1) := by
          refine ⟨⟨?_, own_set stV.rc (by decide) (own_lowerN ow (by simp; omega)) 0 _, own_set stV.rc (by decide) (own_lowerN ow3 (by simp; omega)) 0 _⟩, hSq, hM, hr, hM6, by unfold rkPs; rw [hM]; rfl, h26⟩
          have := stV.setSeq Sq
          simpa [rkL] using this
        clear ow ow3 bl blV stV hq3 hDl hk hg hkC hc hSq hNf hM hr htt h26
        go_wp2
        clear c4 k0 zk0
        generalize World.setCell V _ _ = V1 at HV ⊢
        go_loopw [9, 11] (fun rs x wr => ∃ (j : Nat) (A : Option Addr) (N1 C : Nat) (R : Option Addr) (m F : Nat), x = .int .u64 j ∧ rs = .slice R m F ∧ j ≤ M ∧ 26 + 16 * j + m = L1 ∧ N1 = N + j ∧ DSt q w wr s Sq A N1 C (xs ++ rkL j (D.drop 26)) g Ch [T0, T1, T2, T3, Sq, (M : Int)] R m F (D.drop (26 + 16 * j))) (fun _ x _ => M - (intOf x).toNat)
        case atStart => exact ⟨0, A, N, C, R, r, F, rfl, rfl, Nat.zero_le _, by have := HV.out.2.2.2; omega, rfl, HV.out.1⟩
        case round =>
          obtain ⟨j, A', N1, C', L, m, c', rfl, rfl, hj, hmn, hN1, st⟩ := hrel
          have cn := st.at5
          rcases Nat.lt_or_ge j M with hjl | hjl
          · have hj' : (j : Int) < M := by omega
            have hM6 := HV.out.2.2.2.2.1
            have hwj : IntKind.u64.wrap ((j : Int) + 1) = (j : Int) + 1 := by rw [IntKind.wrap_u64]; omega
            obtain ⟨ys, hys⟩ : ∃ ys, ys = D.drop (26 + 16 * j) := ⟨_, rfl⟩
            have hyl : ys.length = m := by rw [hys, List.length_drop, HI.out.2.2.2.2.2.2.1]; omega
            have hyf : ∀ z ∈ ys, Fits8 z := by rw [hys]; exact fun z hz => HI.out.2.2.2.2.2.2.2.2.1 z (List.mem_of_mem_drop hz)
            rw [← hys] at st
            have HT : Hid (DSt q w wr s Sq A' N1 C' (xs ++ rkL j (D.drop 26)) g Ch [T0, T1, T2, T3, Sq, (M : Int)] L m c' ys ∧ ys = D.drop (26 + 16 * j) ∧ ys.length = m ∧ (∀ z ∈ ys, Fits8 z) ∧ 26 + 16 * j + m = L1 ∧ N1 = N + j ∧ j < M ∧ N1 ≤ 312 * 5000 + 65536 ∧ m ≤ 5000) := ⟨st, hys, hyl, hyf, hmn, hN1, hjl, by have := HI.out.2.2.2.2.2.2.2.2.2.2; omega, by have := HI.out.2.2.2.2.2.2.2.1; omega⟩
            clear st hys hyl hyf hM6 hN1 hmn
            go_wp2_with fail
            refine (refTake_of L m c' ys (some ⟨wr.heap.size, 0, none⟩) 4 4 plW _ ((own_bin HT.out.1.rest (by have := HT.out; unfold maxLen; omega) HT.out.2.2.2.1).alloc _) (own_nil HT.out.1.rest) (own_capN HT.out.1.rest) (nin_pl rfl) (by have := HT.out; omega) (by omega)).mono ?_
            rw [off_pl, HT.out.2.2.1]
            rintro e V2 ⟨A2, k2, C2, R2, r2, F2, rfl, ow2, ow3, bl2⟩
            have bw2 : Below wr.heap.size wr V2 := ((Below.refl _ _).alloc (Nat.le_refl _) _).trans (bl2.mono (by simp))
            by_cases h16 : 16 ≤ m
            rotate_left
            · rw [decide_eq_false h16]
              have hno : ¬ IsK s l := fun h => by
                have h1 := (isK_rd h H.out.2.2.2.2).2.2 D HI.out.2.2.2.2.2.1
                have h2 := h1.2.2
                rw [HV.out.2.2.1] at h2
                have := HI.out.2.2.2.2.2.2.1
                have := HT.out.2.2.2.2
                omega
              have stV := (HT.out.1.below bw2).o
              have d0 : V2.cell? ⟨q + 1, 0, none⟩ = some (.int .u64 0) := stV.res.cell 0
              have d1 : V2.cell? ⟨q + 1, 1, none⟩ = some (.slice none 0 0) := stV.res.cell 1
              have z0 := stV.res.frozen 0
              have z1 := stV.res.frozen 1
              have HE : Hid (Blk ((V2.setCell ⟨q + 1, 0, none⟩ (.int .u64 0)).setCell ⟨q + 1, 1, none⟩ (.slice none 0 0)) (q + 1) [.int .u64 0, .slice none 0 0] 27 ∧ DkDecGot w s l (.returned (.tuple #[.agg #[.int .u64 0, .slice none 0 0], .int .i64 141])) ((V2.setCell ⟨q + 1, 0, none⟩ (.int .u64 0)).setCell ⟨q + 1, 1, none⟩ (.slice none 0 0))) := dk_emptied stV hno
              clear hno h16 ow2 ow3 bl2 bw2 stV cn
              go_wp2
              exact bodyPost_ret (results_cell_two (p := 4) (u := 5) (ty := 27) rfl _ _ (q + 1) _ _ _ rfl HE.out.1 Try.underlying27 rfl Try.info_state _ rfl) rfl HE.out.2
            rw [decide_eq_true h16]
            rw [(tv_pl (ys := ys) (by rw [HT.out.2.2.1]; exact h16)).1] at ow2
            rw [(tv_pl (ys := ys) (by rw [HT.out.2.2.1]; exact h16)).2] at ow3
            obtain ⟨X, hX⟩ : ∃ X, X = rkP ys := ⟨_, rfl⟩
            have hXf : Fit2 X := by rw [hX]; exact rkP_fits HT.out.2.2.2.1
            rw [← hX] at ow2
            obtain ⟨gN, rfl, hk4, hgN, _, hcN⟩ := cown_at ow2 (by simp [plV])
            have hk4' : k2 = 4 := by simpa [plV] using hk4
            subst hk4'
            have hr2 : r2 = m - 16 := by have := ow3.1; rw [u8s_length, List.length_drop, HT.out.2.2.1] at this; omega
            subst hr2
            have hq1 : q + 3 ≤ wr.heap.size := by have := HT.out.1.o.rc.lt; omega
            have st2 := (HT.out.1.below bw2).left (own_lowerN ow3 (by simp; omega))
            have n0 : V2.cell? ⟨gN, 0, none⟩ = some (.int .u64 X.1.1) := hcN 0 (by simp [plV])
            have n1 : V2.cell? ⟨gN, 1, none⟩ = some (.int .u64 X.1.2) := hcN 1 (by simp [plV])
            have n2 : V2.cell? ⟨gN, 2, none⟩ = some (.int .u64 X.2.1) := hcN 2 (by simp [plV])
            have n3 : V2.cell? ⟨gN, 3, none⟩ = some (.int .u64 X.2.2) := hcN 3 (by simp [plV])
            obtain ⟨u0, u2, u3⟩ : IntKind.u32.wrap X.1.1 = X.1.1 ∧ IntKind.i64.wrap X.2.1 = X.2.1 ∧ IntKind.i64.wrap X.2.2 = X.2.2 := by
              obtain ⟨⟨f0, _⟩, f2, f3⟩ := hXf
              unfold Fits32 at f0
              unfold Fits16 at f2 f3
              simp only [IntKind.wrap_u32, IntKind.wrap_i64]
              omega
            have m1 : V2.cell? ⟨q + 2, 1, none⟩ = some (.slice A' N1 C') := st2.o.rc.cell 1
            have m2 : ∀ o, (V2.alloc o).cell? ⟨q + 2, 1, none⟩ = some (.slice A' N1 C') := fun o => (st2.o.rc.alloc o).cell 1
            have st2 := st2.below ((Below.refl _ _).drew)
            obtain ⟨a9, c9, w9, e9', o9, b9, g9⟩ := app_place st2.o.own X (by have := HT.out; omega) (by have := st2.o.rc.lt; omega)
            have e9 : (Builtin.append_ #[25, 25] 25 #[.slice A' N1 C', .slice (some ⟨V2.heap.size, 0, none⟩) 1 1]).run Try.prog (V2.alloc (.cells #[.int .u32 X.1.1, .int .u64 X.1.2, .int .i64 X.2.1, .int .i64 X.2.2] 83)).drew = .ok (.slice a9 (N1 + 1) c9) w9 := e9'
            have rc9 := st2.o.rc.below b9 (by omega)
            have m4 : w9.cell? ⟨q + 2, 1, none⟩ = some (.slice A' N1 C') := rc9.cell 1
            have m5 := rc9.frozen 1
            have st9 := st2.more o9 b9 g9
            have ow2d := own_under ow2 ((Below.refl _ _).drew)
            have ox9 := row_kept ow2d st2.o.own (by decide) g9
            have hne : gN ≠ q + 2 := by simp at hgN; omega
            have r0 : w9.cell? ⟨gN, 0, none⟩ = some (.int .u64 X.1.1) := (ox9.cellAt 0 (by decide)).trans rfl
            have r1 : w9.cell? ⟨gN, 1, none⟩ = some (.int .u64 X.1.2) := (ox9.cellAt 1 (by decide)).trans rfl
            have r2 : w9.cell? ⟨gN, 2, none⟩ = some (.int .u64 X.2.1) := (ox9.cellAt 2 (by decide)).trans rfl
            have r3 : w9.cell? ⟨gN, 3, none⟩ = some (.int .u64 X.2.2) := (ox9.cellAt 3 (by decide)).trans rfl
            have t0 : (w9.setCell ⟨q + 2, 1, none⟩ (.slice a9 (N1 + 1) c9)).cell? ⟨gN, 0, none⟩ = some (.int .u64 X.1.1) := kept_set r0 (by show gN ≠ q + 2; exact hne)
            have t1 : (w9.setCell ⟨q + 2, 1, none⟩ (.slice a9 (N1 + 1) c9)).cell? ⟨gN, 1, none⟩ = some (.int .u64 X.1.2) := kept_set r1 (by show gN ≠ q + 2; exact hne)
            have t2 : (w9.setCell ⟨q + 2, 1, none⟩ (.slice a9 (N1 + 1) c9)).cell? ⟨gN, 2, none⟩ = some (.int .u64 X.2.1) := kept_set r2 (by show gN ≠ q + 2; exact hne)
            have t3 : (w9.setCell ⟨q + 2, 1, none⟩ (.slice a9 (N1 + 1) c9)).cell? ⟨gN, 3, none⟩ = some (.int .u64 X.2.2) := kept_set r3 (by show gN ≠ q + 2; exact hne)
            have p0 : ∀ o, (V2.alloc o).cell? ⟨gN, 0, none⟩ = some (.int .u64 X.1.1) := fun o => (((Below.refl _ V2).alloc (Nat.le_refl _) o).cell (old_block n0)).trans n0
            have p1 : ∀ o, (V2.alloc o).cell? ⟨gN, 1, none⟩ = some (.int .u64 X.1.2) := fun o => (((Below.refl _ V2).alloc (Nat.le_refl _) o).cell (old_block n1)).trans n1
            have p2 : ∀ o, (V2.alloc o).cell? ⟨gN, 2, none⟩ = some (.int .u64 X.2.1) := fun o => (((Below.refl _ V2).alloc (Nat.le_refl _) o).cell (old_block n2)).trans n2
            have p3 : ∀ o, (V2.alloc o).cell? ⟨gN, 3, none⟩ = some (.int .u64 X.2.2) := fun o => (((Below.refl _ V2).alloc (Nat.le_refl _) o).cell (old_block n3)).trans n3
            have H9 : Hid (DSt q w (w9.setCell ⟨q + 2, 1, none⟩ (.slice a9 (N1 + 1) c9)) s Sq a9 (N1 + 1) c9 (xs ++ rkL (j + 1) (D.drop 26)) g Ch [T0, T1, T2, T3, Sq, (M : Int)] R2 (m - 16) F2 (D.drop (26 + 16 * (j + 1)))) := by
              have e : xs ++ rkL (j + 1) (D.drop 26) = (xs ++ rkL j (D.drop 26)) ++ [X] := by rw [rkL_snoc, List.drop_drop, hX, HT.out.2.1, List.append_assoc]
              have e3 : ys.drop 16 = D.drop (26 + 16 * (j + 1)) := by rw [HT.out.2.1, List.drop_drop]; congr 1
              rw [e, ← e3]
              exact st9
            clear hX hXf ow2 ow3 bl2 hk4 hcN bw2 hq1 st2 o9 b9 g9 rc9 st9 e9' ox9 hne hgN cn ow2d
            go_upto_region 16 with fail
            refine wp_region_held_drew (S := fun Y => Y.cell? ⟨gN, 0, none⟩ = some (.int .u64 X.1.1) ∧ Y.cell? ⟨gN, 1, none⟩ = some (.int .u64 X.1.2) ∧ Y.cell? ⟨gN, 2, none⟩ = some (.int .u64 X.2.1) ∧ Y.cell? ⟨gN, 3, none⟩ = some (.int .u64 X.2.2)) (by kernel_rfl) (by exact ⟨n0, n1, n2, n3⟩) (fun hS => ?_)
            refine wpAnyH_take (i := 0) (oi := { dst := some 59, op := Op.fieldAddr 27 (Operand.tmp 6) 1, type := 0, pos := "ref.go:90", after := #[], guard := none }) (v := .pointer (some ⟨q + 2, 1, none⟩)) rfl (by kernel_rfl) (by kernel_rfl) (by kernel_rfl) (fun _ _ _ h => h) (Or.inl ⟨by rfl, fun Y hY => by (try dsimp only at hY); go_simp⟩) hS ?_
            simp only [Act.put, List.setIfInBounds_toArray, List.set_cons_zero, List.set_cons_succ]
            refine wpAnyH_take (i := 2) (oi := { dst := some 61, op := Op.move (Operand.tmp 12), type := 86, pos := "ref.go:90", after := #[], guard := none }) (v := .slice (some ⟨gN, 0, none⟩) 4 C2) rfl (by kernel_rfl) (by kernel_rfl) (by kernel_rfl) (fun _ _ _ h => h) (Or.inl ⟨by rfl, fun Y hY => by (try dsimp only at hY); go_simp⟩) hS ?_
            simp only [Act.put, List.setIfInBounds_toArray, List.set_cons_zero, List.set_cons_succ]
            refine wpAnyH_take (i := 3) (oi := { dst := some 62, op := Op.indexAddr 86 (Operand.tmp 61) (Operand.const (Value.int IntKind.i64 0)), type := 0, pos := "ref.go:90", after := #[{ on := 2, ground := Ground.data }], guard := none }) (v := .pointer (some ⟨gN, 0, none⟩)) rfl (by kernel_rfl) (by kernel_rfl) (by kernel_rfl) (fun _ _ _ h => h) (Or.inl ⟨by rfl, fun Y hY => by (try dsimp only at hY); go_simp⟩) hS ?_
            simp only [Act.put, List.setIfInBounds_toArray, List.set_cons_zero, List.set_cons_succ]
            refine wpAnyH_take (i := 4) (oi := { dst := some 63, op := Op.load 24 (Operand.tmp 62), type := 24, pos := "ref.go:90", after := #[{ on := 3, ground := Ground.data }], guard := none }) (v := .int .u64 X.1.1) rfl (by kernel_rfl) (by kernel_rfl) (by kernel_rfl) (fun _ _ _ h => h) (Or.inl ⟨by rfl, fun Y hY => by (try dsimp only at hY); go_simp⟩) hS ?_
            simp only [Act.put, List.setIfInBounds_toArray, List.set_cons_zero, List.set_cons_succ]
            refine wpAnyH_take (i := 5) (oi := { dst := some 64, op := Op.convert 24 81 (Operand.tmp 63), type := 81, pos := "ref.go:90", after := #[{ on := 4, ground := Ground.data }], guard := none }) (v := .int .u32 X.1.1) rfl (by kernel_rfl) (by kernel_rfl) (by kernel_rfl) (fun _ _ _ h => h) (Or.inl ⟨by rfl, fun Y hY => by (try dsimp only at hY); go_simp⟩) hS ?_
            simp only [Act.put, List.setIfInBounds_toArray, List.set_cons_zero, List.set_cons_succ]
            refine wpAnyH_take (i := 6) (oi := { dst := some 65, op := Op.move (Operand.tmp 12), type := 86, pos := "ref.go:90", after := #[], guard := none }) (v := .slice (some ⟨gN, 0, none⟩) 4 C2) rfl (by kernel_rfl) (by kernel_rfl) (by kernel_rfl) (fun _ _ _ h => h) (Or.inl ⟨by rfl, fun Y hY => by (try dsimp only at hY); go_simp⟩) hS ?_
            simp only [Act.put, List.setIfInBounds_toArray, List.set_cons_zero, List.set_cons_succ]
            refine wpAnyH_take (i := 7) (oi := { dst := some 66, op := Op.indexAddr 86 (Operand.tmp 65) (Operand.const (Value.int IntKind.i64 1)), type := 0, pos := "ref.go:90", after := #[{ on := 6, ground := Ground.data }], guard := none }) (v := .pointer (some ⟨gN, 1, none⟩)) rfl (by kernel_rfl) (by kernel_rfl) (by kernel_rfl) (fun _ _ _ h => h) (Or.inl ⟨by rfl, fun Y hY => by (try dsimp only at hY); go_simp⟩) hS ?_
            simp only [Act.put, List.setIfInBounds_toArray, List.set_cons_zero, List.set_cons_succ]
            refine wpAnyH_take (i := 8) (oi := { dst := some 67, op := Op.load 24 (Operand.tmp 66), type := 24, pos := "ref.go:90", after := #[{ on := 7, ground := Ground.data }], guard := none }) (v := .int .u64 X.1.2) rfl (by kernel_rfl) (by kernel_rfl) (by kernel_rfl) (fun _ _ _ h => h) (Or.inl ⟨by rfl, fun Y hY => by (try dsimp only at hY); go_simp⟩) hS ?_
            simp only [Act.put, List.setIfInBounds_toArray, List.set_cons_zero, List.set_cons_succ]
            refine wpAnyH_take (i := 9) (oi := { dst := some 68, op := Op.move (Operand.tmp 12), type := 86, pos := "ref.go:90", after := #[], guard := none }) (v := .slice (some ⟨gN, 0, none⟩) 4 C2) rfl (by kernel_rfl) (by kernel_rfl) (by kernel_rfl) (fun _ _ _ h => h) (Or.inl ⟨by rfl, fun Y hY => by (try dsimp only at hY); go_simp⟩) hS ?_
            simp only [Act.put, List.setIfInBounds_toArray, List.set_cons_zero, List.set_cons_succ]
            refine wpAnyH_take (i := 10) (oi := { dst := some 69, op := Op.indexAddr 86 (Operand.tmp 68) (Operand.const (Value.int IntKind.i64 2)), type := 0, pos := "ref.go:90", after := #[{ on := 9, ground := Ground.data }], guard := none }) (v := .pointer (some ⟨gN, 2, none⟩)) rfl (by kernel_rfl) (by kernel_rfl) (by kernel_rfl) (fun _ _ _ h => h) (Or.inl ⟨by rfl, fun Y hY => by (try dsimp only at hY); go_simp⟩) hS ?_
            simp only [Act.put, List.setIfInBounds_toArray, List.set_cons_zero, List.set_cons_succ]
            refine wpAnyH_take (i := 11) (oi := { dst := some 70, op := Op.load 24 (Operand.tmp 69), type := 24, pos := "ref.go:90", after := #[{ on := 10, ground := Ground.data }], guard := none }) (v := .int .u64 X.2.1) rfl (by kernel_rfl) (by kernel_rfl) (by kernel_rfl) (fun _ _ _ h => h) (Or.inl ⟨by rfl, fun Y hY => by (try dsimp only at hY); go_simp⟩) hS ?_
            simp only [Act.put, List.setIfInBounds_toArray, List.set_cons_zero, List.set_cons_succ]
            refine wpAnyH_take (i := 12) (oi := { dst := some 71, op := Op.convert 24 3 (Operand.tmp 70), type := 3, pos := "ref.go:90", after := #[{ on := 11, ground := Ground.data }], guard := none }) (v := .int .i64 X.2.1) rfl (by kernel_rfl) (by kernel_rfl) (by kernel_rfl) (fun _ _ _ h => h) (Or.inl ⟨by rfl, fun Y hY => by (try dsimp only at hY); go_simp⟩) hS ?_
            simp only [Act.put, List.setIfInBounds_toArray, List.set_cons_zero, List.set_cons_succ]
            refine wpAnyH_take (i := 13) (oi := { dst := some 72, op := Op.move (Operand.tmp 12), type := 86, pos := "ref.go:90", after := #[], guard := none }) (v := .slice (some ⟨gN, 0, none⟩) 4 C2) rfl (by kernel_rfl) (by kernel_rfl) (by kernel_rfl) (fun _ _ _ h => h) (Or.inl ⟨by rfl, fun Y hY => by (try dsimp only at hY); go_simp⟩) hS ?_
            simp only [Act.put, List.setIfInBounds_toArray, List.set_cons_zero, List.set_cons_succ]
            refine wpAnyH_take (i := 14) (oi := { dst := some 73, op := Op.indexAddr 86 (Operand.tmp 72) (Operand.const (Value.int IntKind.i64 3)), type := 0, pos := "ref.go:90", after := #[{ on := 13, ground := Ground.data }], guard := none }) (v := .pointer (some ⟨gN, 3, none⟩)) rfl (by kernel_rfl) (by kernel_rfl) (by kernel_rfl) (fun _ _ _ h => h) (Or.inl ⟨by rfl, fun Y hY => by (try dsimp only at hY); go_simp⟩) hS ?_
            simp only [Act.put, List.setIfInBounds_toArray, List.set_cons_zero, List.set_cons_succ]
            refine wpAnyH_take (i := 15) (oi := { dst := some 74, op := Op.load 24 (Operand.tmp 73), type := 24, pos := "ref.go:90", after := #[{ on := 14, ground := Ground.data }], guard := none }) (v := .int .u64 X.2.2) rfl (by kernel_rfl) (by kernel_rfl) (by kernel_rfl) (fun _ _ _ h => h) (Or.inl ⟨by rfl, fun Y hY => by (try dsimp only at hY); go_simp⟩) hS ?_
            simp only [Act.put, List.setIfInBounds_toArray, List.set_cons_zero, List.set_cons_succ]
            refine wpAnyH_take (i := 16) (oi := { dst := some 75, op := Op.convert 24 3 (Operand.tmp 74), type := 3, pos := "ref.go:90", after := #[{ on := 15, ground := Ground.data }], guard := none }) (v := .int .i64 X.2.2) rfl (by kernel_rfl) (by kernel_rfl) (by kernel_rfl) (fun _ _ _ h => h) (Or.inl ⟨by rfl, fun Y hY => by (try dsimp only at hY); go_simp⟩) hS ?_
            simp only [Act.put, List.setIfInBounds_toArray, List.set_cons_zero, List.set_cons_succ]
            refine wpAnyH_take (i := 17) (oi := { dst := some 76, op := Op.build 67 #[(0, Operand.tmp 71), (1, Operand.tmp 75)], type := 67, pos := "ref.go:90", after := #[{ on := 12, ground := Ground.data }, { on := 16, ground := Ground.data }], guard := none }) (v := .agg #[.int .i64 X.2.1, .int .i64 X.2.2]) rfl (by kernel_rfl) (by kernel_rfl) (by kernel_rfl) (fun _ _ _ h => h) (Or.inl ⟨by rfl, fun Y hY => by (try dsimp only at hY); go_simp⟩) hS ?_
            simp only [Act.put, List.setIfInBounds_toArray, List.set_cons_zero, List.set_cons_succ]
            refine wpAnyH_take (i := 18) (oi := { dst := some 77, op := Op.build 83 #[(0, Operand.tmp 64), (1, Operand.tmp 67), (2, Operand.tmp 76)], type := 83, pos := "ref.go:90", after := #[{ on := 5, ground := Ground.data }, { on := 8, ground := Ground.data }, { on := 17, ground := Ground.data }], guard := none }) (v := .agg #[.int .u32 X.1.1, .int .u64 X.1.2, .int .i64 X.2.1, .int .i64 X.2.2]) rfl (by kernel_rfl) (by kernel_rfl) (by kernel_rfl) (fun _ _ _ h => h) (Or.inl ⟨by rfl, fun Y hY => by (try dsimp only at hY); go_simp⟩) hS ?_
            simp only [Act.put, List.setIfInBounds_toArray, List.set_cons_zero, List.set_cons_succ]
            refine wpAnyH_ready (rs := [1, 19]) (by kernel_rfl) (by simp) (AllReadyH.cons (o := { dst := some 60, op := Op.load 25 (Operand.tmp 59), type := 25, pos := "ref.go:90", after := #[{ on := 0, ground := Ground.data }], guard := none }) rfl (fun KK hK => ?ga) (AllReadyH.cons (o := { dst := some 78, op := Op.buildSlice 25 1 #[(0, Operand.tmp 77)], type := 25, pos := "ref.go:90", after := #[{ on := 18, ground := Ground.data }], guard := none }) rfl (fun KK hK => ?gb) AllReadyH.nil))
            case ga =>
              go_simp
              refine hK.out _ _ ⟨n0, n1, n2, n3⟩ (fun hS1 => ?_)
              clear hK KK
              try simp only [Act.put, List.setIfInBounds_toArray, List.set_cons_zero, List.set_cons_succ]
              refine wpAnyH_ready (rs := [19]) (by kernel_rfl) (by simp) (AllReadyH.cons (o := { dst := some 78, op := Op.buildSlice 25 1 #[(0, Operand.tmp 77)], type := 25, pos := "ref.go:90", after := #[{ on := 18, ground := Ground.data }], guard := none }) rfl (fun KK hK => ?_) AllReadyH.nil)
              go_simp
              refine hK.out _ _ ⟨p0 _, p1 _, p2 _, p3 _⟩ (fun hS2 => ?_)
              clear hK KK
              try simp only [Act.put, List.setIfInBounds_toArray, List.set_cons_zero, List.set_cons_succ]
              refine wpAnyH_ready (rs := [20]) (by kernel_rfl) (by simp) (AllReadyH.cons (o := { dst := some 79, op := Op.call { callee := Callee.builtin Builtin.append, args := #[Operand.tmp 60, Operand.tmp 78], argTypes := #[25, 25] }, type := 25, pos := "ref.go:90", after := #[{ on := 1, ground := Ground.data }, { on := 19, ground := Ground.data }], guard := none }) rfl (fun KK hK => ?_) AllReadyH.nil)
              refine cstep_append_run rfl (.tmp 60) (.tmp 78) 25 25 rfl _ _ rfl rfl _ _ e9 ?_
              refine hK.out _ _ ⟨r0, r1, r2, r3⟩ (fun hS3 => ?_)
              clear hK KK
              try simp only [Act.put, List.setIfInBounds_toArray, List.set_cons_zero, List.set_cons_succ]
              refine wpAnyH_take (i := 21) (oi := { dst := some 80, op := Op.fieldAddr 27 (Operand.tmp 6) 1, type := 0, pos := "ref.go:90", after := #[{ on := 0, ground := Ground.phase }, { on := 1, ground := Ground.phase }, { on := 2, ground := Ground.phase }, { on := 3, ground := Ground.phase }, { on := 4, ground := Ground.phase }, { on := 5, ground := Ground.phase }, { on := 6, ground := Ground.phase }, { on := 7, ground := Ground.phase }, { on := 8, ground := Ground.phase }, { on := 9, ground := Ground.phase }, { on := 10, ground := Ground.phase }, { on := 11, ground := Ground.phase }, { on := 12, ground := Ground.phase }, { on := 13, ground := Ground.phase }, { on := 14, ground := Ground.phase }, { on := 15, ground := Ground.phase }, { on := 16, ground := Ground.phase }, { on := 17, ground := Ground.phase }, { on := 18, ground := Ground.phase }, { on := 19, ground := Ground.phase }, { on := 20, ground := Ground.phase }], guard := none }) (v := .pointer (some ⟨q + 2, 1, none⟩)) rfl (by kernel_rfl) (by kernel_rfl) (by kernel_rfl) (fun _ _ _ h => h) (Or.inl ⟨by rfl, fun Y hY => by (try dsimp only at hY); go_simp⟩) hS3 ?_
              simp only [Act.put, List.setIfInBounds_toArray, List.set_cons_zero, List.set_cons_succ]
              refine wpAnyH_ready (rs := [22]) (by kernel_rfl) (by simp) (AllReadyH.cons (o := { dst := none, op := Op.store 25 (Operand.tmp 80) (Operand.tmp 79), type := 0, pos := "ref.go:90", after := #[{ on := 21, ground := Ground.data }, { on := 20, ground := Ground.data }, { on := 20, ground := Ground.chain }, { on := 0, ground := Ground.phase }, { on := 1, ground := Ground.phase }, { on := 2, ground := Ground.phase }, { on := 3, ground := Ground.phase }, { on := 4, ground := Ground.phase }, { on := 5, ground := Ground.phase }, { on := 6, ground := Ground.phase }, { on := 7, ground := Ground.phase }, { on := 8, ground := Ground.phase }, { on := 9, ground := Ground.phase }, { on := 10, ground := Ground.phase }, { on := 11, ground := Ground.phase }, { on := 12, ground := Ground.phase }, { on := 13, ground := Ground.phase }, { on := 14, ground := Ground.phase }, { on := 15, ground := Ground.phase }, { on := 16, ground := Ground.phase }, { on := 17, ground := Ground.phase }, { on := 18, ground := Ground.phase }, { on := 19, ground := Ground.phase }, { on := 20, ground := Ground.phase }], guard := none }) rfl (fun KK hK => ?_) AllReadyH.nil)
              go_simp
              refine hK.out _ _ ⟨t0, t1, t2, t3⟩ (fun hS4 => ?_)
              clear hK KK
              try simp only [Act.put, List.setIfInBounds_toArray, List.set_cons_zero, List.set_cons_succ]
              refine wpAnyH_done (by kernel_rfl) ?_ _
              clear e9 m4 m5 n0 n1 n2 n3 m1 m2 u0 u2 u3 r0 r1 r2 r3 t0 t1 t2 t3 p0 p1 p2 p3 hS hS1 hS2 hS3 hS4
              generalize World.setCell w9 _ _ = V9 at H9 ⊢
              go_wp2
              go_roundw
              case rel => exact ⟨j + 1, a9, N1 + 1, c9, R2, m - 16, F2, by simp, rfl, by omega, by have := HT.out; omega, by have := HT.out; omega, H9.out⟩
              case measure => simp [intOf]; omega
            case gb =>
              go_simp
              refine hK.out _ _ ⟨p0 _, p1 _, p2 _, p3 _⟩ (fun hS1 => ?_)
              clear hK KK
              try simp only [Act.put, List.setIfInBounds_toArray, List.set_cons_zero, List.set_cons_succ]
              refine wpAnyH_ready (rs := [1]) (by kernel_rfl) (by simp) (AllReadyH.cons (o := { dst := some 60, op := Op.load 25 (Operand.tmp 59), type := 25, pos := "ref.go:90", after := #[{ on := 0, ground := Ground.data }], guard := none }) rfl (fun KK hK => ?_) AllReadyH.nil)
              go_simp
              refine hK.out _ _ ⟨p0 _, p1 _, p2 _, p3 _⟩ (fun hS2 => ?_)
              clear hK KK
              try simp only [Act.put, List.setIfInBounds_toArray, List.set_cons_zero, List.set_cons_succ]
              refine wpAnyH_ready (rs := [20]) (by kernel_rfl) (by simp) (AllReadyH.cons (o := { dst := some 79, op := Op.call { callee := Callee.builtin Builtin.append, args := #[Operand.tmp 60, Operand.tmp 78], argTypes := #[25, 25] }, type := 25, pos := "ref.go:90", after := #[{ on := 1, ground := Ground.data }, { on := 19, ground := Ground.data }], guard := none }) rfl (fun KK hK => ?_) AllReadyH.nil)
              refine cstep_append_run rfl (.tmp 60) (.tmp 78) 25 25 rfl _ _ rfl rfl _ _ e9 ?_
              refine hK.out _ _ ⟨r0, r1, r2, r3⟩ (fun hS3 => ?_)
              clear hK KK
              try simp only [Act.put, List.setIfInBounds_toArray, List.set_cons_zero, List.set_cons_succ]
              refine wpAnyH_take (i := 21) (oi := { dst := some 80, op := Op.fieldAddr 27 (Operand.tmp 6) 1, type := 0, pos := "ref.go:90", after := #[{ on := 0, ground := Ground.phase }, { on := 1, ground := Ground.phase }, { on := 2, ground := Ground.phase }, { on := 3, ground := Ground.phase }, { on := 4, ground := Ground.phase }, { on := 5, ground := Ground.phase }, { on := 6, ground := Ground.phase }, { on := 7, ground := Ground.phase }, { on := 8, ground := Ground.phase }, { on := 9, ground := Ground.phase }, { on := 10, ground := Ground.phase }, { on := 11, ground := Ground.phase }, { on := 12, ground := Ground.phase }, { on := 13, ground := Ground.phase }, { on := 14, ground := Ground.phase }, { on := 15, ground := Ground.phase }, { on := 16, ground := Ground.phase }, { on := 17, ground := Ground.phase }, { on := 18, ground := Ground.phase }, { on := 19, ground := Ground.phase }, { on := 20, ground := Ground.phase }], guard := none }) (v := .pointer (some ⟨q + 2, 1, none⟩)) rfl (by kernel_rfl) (by kernel_rfl) (by kernel_rfl) (fun _ _ _ h => h) (Or.inl ⟨by rfl, fun Y hY => by (try dsimp only at hY); go_simp⟩) hS3 ?_
              simp only [Act.put, List.setIfInBounds_toArray, List.set_cons_zero, List.set_cons_succ]
              refine wpAnyH_ready (rs := [22]) (by kernel_rfl) (by simp) (AllReadyH.cons (o := { dst := none, op := Op.store 25 (Operand.tmp 80) (Operand.tmp 79), type := 0, pos := "ref.go:90", after := #[{ on := 21, ground := Ground.data }, { on := 20, ground := Ground.data }, { on := 20, ground := Ground.chain }, { on := 0, ground := Ground.phase }, { on := 1, ground := Ground.phase }, { on := 2, ground := Ground.phase }, { on := 3, ground := Ground.phase }, { on := 4, ground := Ground.phase }, { on := 5, ground := Ground.phase }, { on := 6, ground := Ground.phase }, { on := 7, ground := Ground.phase }, { on := 8, ground := Ground.phase }, { on := 9, ground := Ground.phase }, { on := 10, ground := Ground.phase }, { on := 11, ground := Ground.phase }, { on := 12, ground := Ground.phase }, { on := 13, ground := Ground.phase }, { on := 14, ground := Ground.phase }, { on := 15, ground := Ground.phase }, { on := 16, ground := Ground.phase }, { on := 17, ground := Ground.phase }, { on := 18, ground := Ground.phase }, { on := 19, ground := Ground.phase }, { on := 20, ground := Ground.phase }], guard := none }) rfl (fun KK hK => ?_) AllReadyH.nil)
              go_simp
              refine hK.out _ _ ⟨t0, t1, t2, t3⟩ (fun hS4 => ?_)
              clear hK KK
              try simp only [Act.put, List.setIfInBounds_toArray, List.set_cons_zero, List.set_cons_succ]
              refine wpAnyH_done (by kernel_rfl) ?_ _
              clear e9 m4 m5 n0 n1 n2 n3 m1 m2 u0 u2 u3 r0 r1 r2 r3 t0 t1 t2 t3 p0 p1 p2 p3 hS hS1 hS2 hS3 hS4
              generalize World.setCell w9 _ _ = V9 at H9 ⊢
              go_wp2
              go_roundw
              case rel => exact ⟨j + 1, a9, N1 + 1, c9, R2, m - 16, F2, by simp, rfl, by omega, by have := HT.out; omega, by have := HT.out; omega, H9.out⟩
              case measure => simp [intOf]; omega
          · have hjM : M = j := by omega
            subst hjM
            have HO : Hid (OSt q w wr (q + 2) s (allSeq (l.take (i + 1))) A' N1 C' (allPs (l.take (i + 1))) ∧ N1 ≤ 312 * (i + 1)) := by
              refine ⟨?_, ?_⟩
              · rw [take_snoc HI.out.2.2.2.2.1, allSeq_snoc, allPs_snoc, ← HI.out.2.2.2.2.2.2.2.2.2.1, HV.out.2.2.2.2.2.1, ← HV.out.2.1]
                exact st.o
              · have h1 := HI.out.2.2.2.2.2.2.2.2.2.2
                have h2 := HI.out.2.2.2.2.2.2.2.1
                omega
            clear st
            go_wp2
            go_roundw
            case rel => exact ⟨i + 1, A', N1, C', by simp, by omega, HO.out.1, HO.out.2⟩
            case measure => simp [intOf]; omega
    · have hin : n = i := by omega
      subst hin
      have htk : l.take n = l := List.take_of_length_le (by rw [H.out.1.1]; exact Nat.le_refl _)
      rw [htk] at st
      obtain ⟨S, hS⟩ : ∃ S, S = allSeq l := ⟨_, rfl⟩
      obtain ⟨ps, hps⟩ : ∃ ps, ps = allPs l := ⟨_, rfl⟩
      rw [← hS, ← hps] at st
      have hSf : FitsU S := by rw [hS]; exact allSeq_fits l H.out.2.2.2.2
      have hpf : ∀ p ∈ ps, FitsP p := by rw [hps]; exact fun p hp => (allPs_fits H.out.2.2.2.2 p hp).fits
      have hk : KIn wr A N ps := own_kin st.own (by unfold maxLen; omega) hpf
      have HS : Hid (OSt q w wr (q + 2) s S A N C ps ∧ S = allSeq l ∧ ps = allPs l ∧ FitsU S ∧ (∀ p ∈ ps, FitsP p) ∧ KIn wr A N ps ∧ N ≤ 312 * n) := ⟨st, hS, hps, hSf, hpf, hk, hN⟩
      have e0 : wr.cell? ⟨q, 0, none⟩ = some (.int .i64 s.z) := st.shp.cell 0
      have e1 : wr.cell? ⟨q, 1, none⟩ = some (.int .i64 s.zb) := st.shp.cell 1
      have e2 : wr.cell? ⟨q, 2, none⟩ = some (.int .i64 s.b) := st.shp.cell 2
      have e3 : wr.cell? ⟨q, 3, none⟩ = some (.int .i64 s.r) := st.shp.cell 3
      have k0 : wr.cell? ⟨q + 2, 0, none⟩ = some (.int .u64 S) := st.rc.cell 0
      have k1 : wr.cell? ⟨q + 2, 1, none⟩ = some (.slice A N C) := st.rc.cell 1
      clear st hS hps hSf hpf hk hN htk
      go_wp2_with fail
      refine (dkEncode_of s S A N C ps wr H.out.2.2.1 HS.out.2.2.2.1 HS.out.2.2.2.2.2.1 (by have := HS.out.2.2.2.2.2.2; omega)).mono ?_
      rintro e W6 ⟨v6, rfl, r6, b6⟩
      have st6 := HS.out.1.below b6
      obtain ⟨av, cv, hv6⟩ := r6.slice
      obtain ⟨nl, hnl⟩ : ∃ nl, nl = (ckO s S ps).length := ⟨_, rfl⟩
      rw [← hnl] at hv6
      subst hv6
      have HSt : Hid (∀ j, OSt q w (W6.drewN j) (q + 2) s S A N C ps) := fun j => st6.below (let h := Below.refl W6.heap.size W6; ⟨h.os, h.tape, h.output, h.size, h.block⟩)
      have d0 : W6.cell? ⟨q + 1, 0, none⟩ = some (.int .u64 0) := st6.res.cell 0
      have d1 : W6.cell? ⟨q + 1, 1, none⟩ = some (.slice none 0 0) := st6.res.cell 1
      have z0 := st6.res.frozen 0
      have z1 := st6.res.frozen 1
      have hbad : Hid (¬ IsK s l → Blk ((W6.setCell ⟨q + 1, 0, none⟩ (.int .u64 0)).setCell ⟨q + 1, 1, none⟩ (.slice none 0 0)) (q + 1) [.int .u64 0, .slice none 0 0] 27 ∧ DkDecGot w s l (.returned (.tuple #[.agg #[.int .u64 0, .slice none 0 0], .int .i64 141])) ((W6.setCell ⟨q + 1, 0, none⟩ (.int .u64 0)).setCell ⟨q + 1, 1, none⟩ (.slice none 0 0))) := fun hno => dk_emptied st6 hno
      obtain ⟨E, hE⟩ : ∃ E, E = ckE s ps := ⟨_, rfl⟩
      rw [← hE]
      have b6w : Below w.heap.size w W6 := by rw [← H.out.2.1]; exact st6.bel
      have HR6 : Hid (RowAt (fun j => wr.heap.size ≤ j) W6 (.slice av nl cv) (ckO s S ps) ∧ Below w.heap.size w W6 ∧ E = ckE s ps ∧ nl = (ckO s S ps).length ∧ KIn W6 A N ps) := ⟨r6, b6w, hE, hnl, HS.out.2.2.2.2.2.1.below b6⟩
      clear e0 e1 e2 e3 k0 k1 st6 r6 b6 hE hnl b6w
      by_cases hE0 : E = 0
      rotate_left
      · have f1 : (E != 0) = true := by simp [hE0]
        have HE : Hid (Blk ((W6.setCell ⟨q + 1, 0, none⟩ (.int .u64 0)).setCell ⟨q + 1, 1, none⟩ (.slice none 0 0)) (q + 1) [.int .u64 0, .slice none 0 0] 27 ∧ DkDecGot w s l (.returned (.tuple #[.agg #[.int .u64 0, .slice none 0 0], .int .i64 141])) ((W6.setCell ⟨q + 1, 0, none⟩ (.int .u64 0)).setCell ⟨q + 1, 1, none⟩ (.slice none 0 0))) := hbad.out (fun h => hE0 (by rw [HR6.out.2.2.1, HS.out.2.2.1]; exact h.1))
        clear hE0 hbad
        go_wp2
        exact bodyPost_ret (results_cell_two (p := 4) (u := 5) (ty := 27) rfl _ _ (q + 1) _ _ _ rfl HE.out.1 Try.underlying27 rfl Try.info_state _ rfl) rfl HE.out.2
      have hE0' : ckE s ps = 0 := by rw [← HR6.out.2.2.1]; exact hE0
      have hck : ckO s S ps = ckL s S ps := by unfold ckO; rw [if_pos hE0']
      obtain ⟨ls, hls⟩ : ∃ ls, ls = ckL s S ps := ⟨_, rfl⟩
      have HL : Hid (BsIn W6 av nl ls ∧ BsIn W6 (a) n l ∧ ls = ckL s S ps ∧ nl = ls.length ∧ ckE s ps = 0 ∧ ∀ b ∈ ls, ∀ z ∈ b, Fits8 z) := by
        have h1 := HR6.out.1
        rw [hck, ← hls] at h1
        have h2 := h1.bsin (by rw [hls]; exact ckL_short hE0')
        exact ⟨h2, H.out.1.below HR6.out.2.1, hls, by rw [HR6.out.2.2.2.1, hck, hls], hE0', bs_fits h2⟩
      clear hE0' hck hls
      subst hE0
      have hll := H.out.1.1
      by_cases hnn : nl = n
      rotate_left
      · have f1 : ((nl : Int) != (n : Int)) = true := by simp; omega
        have f2 : (nl != n) = true := by simp [hnn]
        have HE : Hid (Blk ((W6.setCell ⟨q + 1, 0, none⟩ (.int .u64 0)).setCell ⟨q + 1, 1, none⟩ (.slice none 0 0)) (q + 1) [.int .u64 0, .slice none 0 0] 27 ∧ DkDecGot w s l (.returned (.tuple #[.agg #[.int .u64 0, .slice none 0 0], .int .i64 141])) ((W6.setCell ⟨q + 1, 0, none⟩ (.int .u64 0)).setCell ⟨q + 1, 1, none⟩ (.slice none 0 0))) := hbad.out (fun h => hnn (by
          have h2 := h.2
          rw [← HS.out.2.1, ← HS.out.2.2.1, ← HL.out.2.2.1] at h2
          rw [HL.out.2.2.2.1, h2]; exact hll))
        clear hnn hbad hll
        go_wp2
        exact bodyPost_ret (results_cell_two (p := 4) (u := 5) (ty := 27) rfl _ _ (q + 1) _ _ _ rfl HE.out.1 Try.underlying27 rfl Try.info_state _ rfl) rfl HE.out.2
      have hnn' : n = nl := hnn.symm
      subst hnn'
      clear hnn hbad d0 d1 z0 z1
      have f1 : ((n : Int) != (n : Int)) = false := by simp
      have f2 : (n != n) = false := by simp
      go_wp2
      clear f1 f2
      go_loopw [17] (fun x wr => ∃ i j : Nat, x = .int .i64 i ∧ i ≤ n ∧ wr = W6.drewN j ∧ ∀ k, k < i → ls[k]? = l[k]?) (fun x _ => n - (intOf x).toNat)
      case atStart => exact ⟨0, 0, rfl, Nat.zero_le _, rfl, fun k h => by omega⟩
      case round =>
        obtain ⟨i, j, rfl, hi, rfl, heq⟩ := hrel
        obtain ⟨V, hV⟩ : ∃ V, V = W6.drewN j := ⟨_, rfl⟩
        have hcl : ∀ (p : Addr) (v : Value), W6.cell? p = some v → ∀ t, (V.drewN t).cell? p = some v := fun p v h t => by rw [hV]; exact h
        rcases Nat.lt_or_ge i n with hlt | hge
        · obtain ⟨D1, hD1⟩ : ∃ D1, ls[i]? = some D1 := ⟨ls[i]'(by have := HL.out.2.2.2.1; omega), by simp⟩
          obtain ⟨D2, hD2⟩ : ∃ D2, l[i]? = some D2 := ⟨l[i]'(by have := H.out.1.1; omega), by simp⟩
          obtain ⟨b1, o1, A1, L1, C1, ha1, c1, bin1, _⟩ := HL.out.1.at hD1
          obtain ⟨b2, o2, A2, L2, C2, ha2, c2, bin2, _⟩ := HL.out.2.1.at hD2
          subst ha1
          subst ha2
          have c1' := hcl _ _ c1
          have c2' := hcl _ _ c2
          have h1 := fun t => str_of (V.drewN t) A1 L1 C1 D1 (by rw [hV]; exact bin1)
          have h2 := fun t => str_of (V.drewN t) A2 L2 C2 D2 (by rw [hV]; exact bin2)
          have hlt' : (i : Int) < n := by omega
          have hwi : IntKind.i64.wrap ((i : Int) + 1) = (i : Int) + 1 := by rw [IntKind.wrap_i64]; omega
          have HV : Hid (V = W6.drewN j ∧ (∀ k, k < i → ls[k]? = l[k]?) ∧ ls[i]? = some D1 ∧ l[i]? = some D2 ∧ (∀ z ∈ D1, Fits8 z) ∧ ∀ z ∈ D2, Fits8 z) := ⟨hV, heq, hD1, hD2, bin1.2.2.1, bin2.2.2.1⟩
          rw [← hV]
          clear hV heq hD1 hD2 hcl c1 c2 bin1 bin2
          by_cases hDD : D1 = D2
          · have HD : Hid (∀ k, k < i + 1 → ls[k]? = l[k]?) := by
              intro k hk
              rcases Nat.lt_or_ge k i with h | h
              · exact HV.out.2.1 k h
              · obtain rfl : k = i := by omega
                rw [HV.out.2.2.1, HV.out.2.2.2.1, hDD]
            rw [← hDD] at h2
            obtain ⟨St, eS⟩ : ∃ St, St = strOfNums D1 := ⟨_, rfl⟩
            simp only [← eS] at h1 h2
            clear eS hDD
            go_wp2
            go_quiet (fail)
            go_wp2
            go_roundw
            case rel => exact ⟨i + 1, j + nq, by simp, by omega, by rw [HV.out.1, World.drewN_drewN], HD.out⟩
            case measure => simp [intOf]; omega
          · have h3 := str_other HV.out.2.2.2.2.1 HV.out.2.2.2.2.2 hDD
            have HE : Hid (∀ t, OSt q w (V.drewN t) (q + 2) s S A N C ps ∧ ¬ IsK s l) := by
              intro t
              refine ⟨by rw [HV.out.1, World.drewN_drewN]; exact HSt.out _, fun h => hDD ?_⟩
              have h4 := h.2
              rw [← HS.out.2.1, ← HS.out.2.2.1, ← HL.out.2.2.1] at h4
              have h5 := HV.out.2.2.1
              rw [h4, HV.out.2.2.2.1] at h5
              exact (Option.some.inj h5).symm
            clear hDD
            go_wp2
            go_quiet (fail)
            obtain ⟨st7, hno⟩ := HE.out nq
            generalize World.drewN V nq = V7 at st7 ⊢
            have d0 : V7.cell? ⟨q + 1, 0, none⟩ = some (.int .u64 0) := st7.res.cell 0
            have d1 : V7.cell? ⟨q + 1, 1, none⟩ = some (.slice none 0 0) := st7.res.cell 1
            have z0 := st7.res.frozen 0
            have z1 := st7.res.frozen 1
            have HF : Hid (Blk ((V7.setCell ⟨q + 1, 0, none⟩ (.int .u64 0)).setCell ⟨q + 1, 1, none⟩ (.slice none 0 0)) (q + 1) [.int .u64 0, .slice none 0 0] 27 ∧ DkDecGot w s l (.returned (.tuple #[.agg #[.int .u64 0, .slice none 0 0], .int .i64 141])) ((V7.setCell ⟨q + 1, 0, none⟩ (.int .u64 0)).setCell ⟨q + 1, 1, none⟩ (.slice none 0 0))) := dk_emptied st7 hno
            clear st7 hno HE h1 h2 h3 c1' c2'
            go_wp2
            exact bodyPost_ret (results_cell_two (p := 4) (u := 5) (ty := 27) rfl _ _ (q + 1) _ _ _ rfl HF.out.1 Try.underlying27 rfl Try.info_state _ rfl) rfl HF.out.2
        · have hin : n = i := by omega
          subst hin
          have hy : IsK s l := by
            refine ⟨by rw [← HS.out.2.2.1]; exact HL.out.2.2.2.2.1, ?_⟩
            rw [← HS.out.2.1, ← HS.out.2.2.1, ← HL.out.2.2.1]
            apply List.ext_getElem?
            intro k
            rcases Nat.lt_or_ge k n with h | h
            · exact heq k h
            · rw [List.getElem?_eq_none (by have := HL.out.2.2.2.1; omega), List.getElem?_eq_none (by have := H.out.1.1; omega)]
          have st7 := HSt.out j
          have hk7 : KIn (W6.drewN j) A N ps := HR6.out.2.2.2.2
          rw [← hV] at st7 hk7 ⊢
          have HF : Hid (Blk ((V.setCell ⟨q + 1, 0, none⟩ (.int .u64 S)).setCell ⟨q + 1, 1, none⟩ (.slice A N C)) (q + 1) [.int .u64 S, .slice A N C] 27 ∧ DkDecGot w s l (.returned (.tuple #[.agg #[.int .u64 S, .slice A N C], .int .i64 0])) ((V.setCell ⟨q + 1, 0, none⟩ (.int .u64 S)).setCell ⟨q + 1, 1, none⟩ (.slice A N C))) := dk_told st7 HS.out.2.1 HS.out.2.2.1 hk7 hy
          have d0 : V.cell? ⟨q + 1, 0, none⟩ = some (.int .u64 0) := st7.res.cell 0
          have d1 : V.cell? ⟨q + 1, 1, none⟩ = some (.slice none 0 0) := st7.res.cell 1
          have z0 := st7.res.frozen 0
          have z1 := st7.res.frozen 1
          have p0 : V.cell? ⟨q + 2, 0, none⟩ = some (.int .u64 S) := st7.rc.cell 0
          have p1 : V.cell? ⟨q + 2, 1, none⟩ = some (.slice A N C) := st7.rc.cell 1
          clear st7 hk7 hy heq hcl hV
          go_wp2
          exact bodyPost_ret (results_cell_two (p := 4) (u := 5) (ty := 27) rfl _ _ (q + 1) _ _ _ rfl HF.out.1 Try.underlying27 rfl Try.info_state _ rfl) rfl HF.out.2
end Go.Proofs.Yteokhkoaieibmaa

/- Blocks that came in. -/
namespace Go.Proofs.Yteokhkoaieibmaa
open Go.RowKit Go.ChangeShapes Go.WideShapes
set_option linter.unusedVariables false
set_option maxRecDepth 4000

section
variable {H : Type} {enc : TypeId × Value → H} {W : World}
theorem open_blocks {a : Option Addr} {len cap : Nat} {d : DataW H} {p : List MemPlace} (h : Came enc W 28 (.slice a len cap) d p) : ∃ bs, BsRaw W a len bs := by
  obtain ⟨fuel, hf⟩ := h
  have hf' : DataW.trod enc Try.prog W 0 (fun _ => true) true fuel 28 [.slice a len cap] = some (d, p) := by simpa [Value.cells] using hf
  exact blocks_of hf'
end
theorem braw_at {W : World} {a : Option Addr} {n : Nat} {bs : List (List Int)} (h : BsRaw W a n bs) {i : Nat} {D : List Int} (hi : bs[i]? = some D) : ∃ b off A L C, a = some ⟨b, off, none⟩ ∧ W.cell? ⟨b, off + i, none⟩ = some (.slice A L C) ∧ BIn W A L D ∧ (A = none → L = 0 ∧ C = 0) ∧ L ≤ C := by
  have hil := (List.getElem?_eq_some_iff.1 hi).1
  obtain ⟨b, off, ha, hc⟩ := h.2.2.resolve_left (by have := h.1; omega)
  obtain ⟨v, hv, A, L, C, rfl, h1, h2, h3⟩ := hc i D hi
  exact ⟨b, off, A, L, C, ha, hv, h1, h2, h3⟩
theorem braw_in {W : World} {a : Option Addr} {n : Nat} {bs : List (List Int)} (h : BsRaw W a n bs) (hn : n ≤ 100000) (hs : Short bs) : BsIn W a n bs := by
  refine ⟨h.1, hn, ?_⟩
  rcases h.2.2 with h0 | ⟨b, off, ha, hc⟩
  · exact .inl h0
  · refine .inr ⟨b, off, ha, fun i D hi => ?_⟩
    obtain ⟨v, hv, A, L, C, rfl, h1, h2, h3⟩ := hc i D hi
    exact ⟨_, hv, A, L, C, rfl, h1, h2, h3, by rw [← h1.1]; exact hs D (List.mem_of_getElem? hi)⟩
end Go.Proofs.Yteokhkoaieibmaa
