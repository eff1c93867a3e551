/- RecRooms holds: a record has as many items as there is room for, and no more; a greater block has no less room. -/
import Derived.Test.YtggeadjebkhomaaRows
import Derived.Test.YtggeadjebkhomaaRcMore
import Derived.WalkKit
import Derived.ProofKit
import Derived.OpenShut
import Derived.ShutString
import Derived.ChangeOld
import Derived.Below
namespace Go.Proofs.Ytggeadjebkhomaa.recRooms
open Go.ChangeShapes Go.WideShapes Go.ChangeAt Go.RowKit
open Go.ChangeMaps (open_string shut_string)
set_option linter.unusedVariables false

theorem own : ownKnob Try.prog.godebug = none := by kernel_rfl
theorem laidOut : laidOutB Try.prog = true := by kernel_rfl

set_option maxHeartbeats 4000000 in
theorem walk (a0 : Int) (x1 : It) (a2 : Int) (w : World) (w0 : (Lit.int .u8 a0).wf = true) (w1 : x1.Fits) (w2 : (Lit.int .u64 a2).wf = true) :
    Calls Try.prog 8 #[.int .u8 a0, .agg #[.int .u32 x1.t, .int .u64 x1.b, .int .u8 x1.k, .int .u32 x1.s, .int .u16 x1.e], .int .u64 a2] w fun e w' => e = .returned (.bool true) ∧ Below w.heap.size w w' := by
  have hP := bounds_u8 w0
  obtain ⟨p, hp⟩ : ∃ p : Nat, a0 % 7 = p := ⟨(a0 % 7).toNat, by omega⟩
  have hp7 : p < 7 := by omega
  have htm : Int.tmod a0 7 = (p : Int) := by rw [Int.tmod_eq_emod_of_nonneg (by omega)]; exact hp
  obtain ⟨N, hN⟩ : ∃ N, N = 64 * 2 ^ p := ⟨_, rfl⟩
  have hsh : wrap64 (64 * 2 ^ p) = (N : Int) := by rw [hN]; exact shl_pow ⟨p, hp7⟩
  have hmem : (N : Int) ∈ PowR := by rw [hN]; exact shl_mem ⟨p, hp7⟩
  have hNb := pow_bounds hmem
  obtain ⟨q, hq⟩ : ∃ q, q = w.heap.size := ⟨_, rfl⟩
  have kb : Blk (w.alloc (.cells #[.int .u32 x1.t, .int .u64 x1.b, .int .u8 x1.k, .int .u32 x1.s, .int .u16 x1.e] 47)) q (itL x1) 47 := Blk.new' hq.symm rfl
  have bw : Below w.heap.size w (w.alloc (.cells #[.int .u32 x1.t, .int .u64 x1.b, .int .u8 x1.k, .int .u32 x1.s, .int .u16 x1.e] 47)) := (Below.refl _ _).alloc (Nat.le_refl _) _
  have hS : FitsU a2 := fitsU w2
  have H : Hid (FitsU a2 ∧ (N : Int) ∈ PowR ∧ 64 ≤ (N : Int) ∧ (N : Int) ≤ 4096 ∧ N = 64 * 2 ^ p ∧ p < 7) := ⟨hS, hmem, hNb.1, hNb.2, hN, hp7⟩
  have HT : Hid (Int.tmod a0 7 = (p : Int)) := htm
  have hFx : x1.Fits := w1
  clear w0 w1 w2 hP hp hN hmem hNb hS
  go_enter Try.func8, Try.ntmps8
  go_upto_region 2 with fail
  rw [← hq, hsh]
  generalize hW : World.alloc w _ = W at kb bw ⊢
  have HW : Hid (Blk W q (itL x1) 47 ∧ Below w.heap.size w W ∧ q = w.heap.size) := ⟨kb, bw, hq⟩
  have c2 : W.cell? ⟨q, 2, none⟩ = some (.int .u8 x1.k) := kb.cell 2
  have c3 : W.cell? ⟨q, 3, none⟩ = some (.int .u32 x1.s) := kb.cell 3
  have c4 : W.cell? ⟨q, 4, none⟩ = some (.int .u16 x1.e) := kb.cell 4
  have f2 := kb.frozen 2
  have f3 := kb.frozen 3
  have f4 := kb.frozen 4
  clear kb bw hW hsh htm hq
  by_cases hk : x1.k = 1
  · have hkb : (x1.k != 1) = false := by rw [hk]; rfl
    obtain ⟨v, hv⟩ : ∃ v, v = Int.tmod x1.e 4097 := ⟨_, rfl⟩
    have hvb : 0 ≤ v ∧ v ≤ 4096 := by have := hFx.2.2.2.2; unfold Fits16 at this; rw [hv, Int.tmod_eq_emod_of_nonneg (by omega)]; omega
    have hv' : Int.tmod x1.e 4097 = v := hv.symm
    clear hv
    obtain ⟨y, hy⟩ : ∃ y : It, y = ⟨x1.t, x1.b, x1.k, x1.s, v⟩ := ⟨_, rfl⟩
    have kx : Blk (W.setCell ⟨q, 4, none⟩ (.int .u16 v)) q (itL y) 47 := by rw [hy]; exact HW.out.1.set 4 _
    have bx : Below w.heap.size w (W.setCell ⟨q, 4, none⟩ (.int .u16 v)) := HW.out.2.1.setCell (by show w.heap.size ≤ q; have := HW.out.2.2; omega) _
    have fy : y.Fits := by rw [hy]; exact ⟨hFx.1, hFx.2.1, hFx.2.2.1, hFx.2.2.2.1, ⟨hvb.1, by show v < 65536; omega⟩⟩
    have ry : RightI y := by rw [hy]; exact .inl ⟨hk, hvb.2⟩
    clear hk hy
    go_upto_region 7 with fail
    clear hkb c2 c3 c4 f2 f3 f4 hv' hvb hFx
    generalize hX : World.setCell W _ _ = X at kx bx ⊢
    clear hX
    obtain ⟨M, hMr⟩ : ∃ M : Nat, roomI (N : Int) = M := ⟨(roomI (N : Int)).toNat, by have := room_le (N : Int); omega⟩
    have cR := room_of (N : Int) X
    rw [hMr] at cR
    have hM0 : 0 < M ∧ M ≤ 214 := by
      have h1 := room_le (N : Int)
      have h2 : roomI (N : Int) = ((N : Int) - 19) / 19 := by unfold roomI; rw [if_pos H.out.2.1]
      have := H.out.2.2.1
      omega
    have HMr : Hid (roomI (N : Int) = M ∧ 0 < M ∧ M ≤ 214) := ⟨hMr, hM0⟩
    have HX : Hid (Blk X q (itL y) 47 ∧ Below w.heap.size w X ∧ y.Fits ∧ RightI y) := ⟨kx, bx, fy, ry⟩
    clear hMr hM0 kx bx fy ry
    go_upto_region 8 with (go_at_call 13; refine cR.mono ?_; rintro e X2 ⟨rfl, hx2⟩; replace hx2 := hx2.symm; subst hx2)
    clear cR
    go_wp2
    go_loopw [9, 10] (fun l x wr => ∃ (i : Nat) (a : Option Addr) (c : Nat), x = .int .i64 i ∧ l = .slice a i c ∧ i ≤ M ∧ wr.ownsRow X.heap.size 47 5 (.slice a i c) i (itC (List.replicate i y)) ∧ Below X.heap.size X wr) (fun _ x _ => M - (intOf x).toNat)
    case atStart => exact ⟨0, none, 0, rfl, rfl, Nat.zero_le _, World.ownsRow_nil _ _ _ _, Below.refl _ _⟩
    case round =>
      obtain ⟨i, a, c, rfl, rfl, hi, ow, bl⟩ := hrel
      have kr := HX.out.1.below bl HX.out.1.lt
      have c0 : wr.cell? ⟨q, 0, none⟩ = some (.int .u32 y.t) := kr.cell 0
      have c1 : wr.cell? ⟨q, 1, none⟩ = some (.int .u64 y.b) := kr.cell 1
      have c2 : wr.cell? ⟨q, 2, none⟩ = some (.int .u8 y.k) := kr.cell 2
      have c3 : wr.cell? ⟨q, 3, none⟩ = some (.int .u32 y.s) := kr.cell 3
      have c4 : wr.cell? ⟨q, 4, none⟩ = some (.int .u16 y.e) := kr.cell 4
      rcases Nat.lt_or_ge i M with hlt | hge
      · have hi' : (i : Int) < M := by omega
        have hwi : IntKind.i64.wrap ((i : Int) + 1) = (i : Int) + 1 := by have := HMr.out; rw [IntKind.wrap_i64]; omega
        obtain ⟨a9, c9, w9, e9, o9, b9⟩ := app_item ow y (by have := HMr.out; omega) bl.size
        have er : List.replicate i y ++ [y] = List.replicate (i + 1) y := (List.replicate_succ').symm
        rw [er] at o9
        have HZ : Hid (w9.ownsRow X.heap.size 47 5 (.slice a9 (i + 1) c9) (i + 1) (itC (List.replicate (i + 1) y)) ∧ Below X.heap.size X w9) := ⟨o9, bl.trans b9⟩
        have HE : Hid ((Builtin.append_ #[23, 23] 23 #[.slice a i c, .slice (some ⟨wr.heap.size, 0, none⟩) 1 1]).run Try.prog (wr.alloc (.cells #[.int .u32 y.t, .int .u64 y.b, .int .u8 y.k, .int .u32 y.s, .int .u16 y.e] 47)) = .ok (.slice a9 (i + 1) c9) w9) := e9
        clear e9 o9 b9 er ow bl kr
        go_wp2_with (at_builtin; refine cwpList_append_run rfl (.tmp 37) (.tmp 39) 23 23 rfl _ _ rfl rfl _ _ HE.out ?_)
        go_roundw
        case rel => exact ⟨i + 1, a9, c9, by simp, rfl, by omega, HZ.out⟩
        case measure => simp [intOf]; omega
      · obtain rfl : i = M := by omega
        have hfr : ∀ (j : Nat), ∀ x ∈ List.replicate j y, x.Fits := fun j x hx => by rw [(List.mem_replicate.1 hx).2]; exact HX.out.2.2.1
        have hits := own_its ow (by have := HMr.out; unfold maxLen; omega) (hfr i)
        have hg : GoodR (List.replicate i y) (N : Int) := ⟨by rw [List.length_replicate]; exact HMr.out.2.1, by rw [List.length_replicate, HMr.out.1]; exact Int.le_refl _, fun x hx => by rw [(List.mem_replicate.1 hx).2]; exact HX.out.2.2.2⟩
        have hno : ¬ GoodR (List.replicate (i + 1) y) (N : Int) := fun h => by have := h.2.1; rw [List.length_replicate, HMr.out.1] at this; omega
        have hno0 : ¬ GoodR ([] : List It) (N : Int) := fun h => by have := h.1; simp at this
        have e1 : encE (List.replicate i y) (N : Int) = 0 := by unfold encE; rw [if_pos hg]
        have e2 : encE (List.replicate (i + 1) y) (N : Int) = 110 := by unfold encE; rw [if_neg hno]
        have e3 : encE [] (N : Int) = 110 := by unfold encE; rw [if_neg hno0]
        have hbl : Below w.heap.size w wr := HX.out.2.1.trans (bl.mono HX.out.2.1.size)
        have hlenB : (encB a2 (List.replicate i y) (N : Int)).length = N := by unfold encB; rw [if_pos hg, Int.toNat_natCast, enc_length (by have := hg.bounds; omega)]
        have HI : Hid (ItsIn wr a i (List.replicate i y) ∧ wr.ownsRow X.heap.size 47 5 (.slice a i c) i (itC (List.replicate i y)) ∧ Below X.heap.size X wr ∧ Below w.heap.size w wr ∧ (∀ (j : Nat), ∀ x ∈ List.replicate j y, x.Fits) ∧ encE (List.replicate i y) (N : Int) = 0 ∧ encE (List.replicate (i + 1) y) (N : Int) = 110 ∧ encE [] (N : Int) = 110 ∧ (encB a2 (List.replicate i y) (N : Int)).length = N) := ⟨hits, ow, bl, hbl, hfr, e1, e2, e3, hlenB⟩
        clear hits ow bl hbl hfr hg hno hno0 e1 e2 e3 hlenB kr c0 c1 c2 c3 c4
        go_wp2_with fail
        refine (encode_of a2 a i c (List.replicate i y) (N : Int) wr H.out.1 HI.out.1).mono ?_
        rintro e W3 ⟨A3, n3, C3, rfl, ow3, b3, rfl⟩
        rw [HI.out.2.2.2.2.2.1]
        obtain rfl : C3 = N := by have := ow3.1; rw [u8s_length, HI.out.2.2.2.2.2.2.2.2] at this; omega
        have ow4 : W3.ownsRow X.heap.size 47 5 (.slice a i c) i (itC (List.replicate i y)) := by
          refine ⟨HI.out.2.1.1, ?_⟩
          rcases HI.out.2.1.2 with h2 | ⟨g, cap, cur, hv, hbg, hg, hr⟩
          · exact .inl h2
          · exact .inr ⟨g, cap, cur, hv, hbg, by rw [b3.block g (Array.getElem?_eq_some_iff.1 hg).1]; exact hg, hr⟩
        have bX3 : Below X.heap.size X W3 := HI.out.2.2.1.trans (b3.mono HI.out.2.2.1.size)
        have kr3 := HX.out.1.below bX3 HX.out.1.lt
        have c0 : W3.cell? ⟨q, 0, none⟩ = some (.int .u32 y.t) := kr3.cell 0
        have c1 : W3.cell? ⟨q, 1, none⟩ = some (.int .u64 y.b) := kr3.cell 1
        have c2 : W3.cell? ⟨q, 2, none⟩ = some (.int .u8 y.k) := kr3.cell 2
        have c3 : W3.cell? ⟨q, 3, none⟩ = some (.int .u32 y.s) := kr3.cell 3
        have c4 : W3.cell? ⟨q, 4, none⟩ = some (.int .u16 y.e) := kr3.cell 4
        obtain ⟨a9, c9, w9, e9, o9, b9⟩ := app_item ow4 y (by have := HMr.out; omega) bX3.size
        have er : List.replicate i y ++ [y] = List.replicate (i + 1) y := (List.replicate_succ').symm
        rw [er] at o9
        have HE : Hid ((Builtin.append_ #[23, 23] 23 #[.slice a i c, .slice (some ⟨W3.heap.size, 0, none⟩) 1 1]).run Try.prog (W3.alloc (.cells #[.int .u32 y.t, .int .u64 y.b, .int .u8 y.k, .int .u32 y.s, .int .u16 y.e] 47)) = .ok (.slice a9 (i + 1) c9) w9) := e9
        have bX9 := bX3.trans b9
        have HZ : Hid (ItsIn w9 a9 (i + 1) (List.replicate (i + 1) y) ∧ Below w.heap.size w w9) := ⟨own_its o9 (by have := HMr.out; unfold maxLen; omega) (HI.out.2.2.2.2.1 (i + 1)), HX.out.2.1.trans (bX9.mono HX.out.2.1.size)⟩
        clear e9 o9 b9 er ow3 ow4 bX3 bX9 kr3 b3
        go_wp2_with (at_builtin; refine cwpList_append_run rfl (.tmp 51) (.tmp 53) 23 23 rfl _ _ rfl rfl _ _ HE.out ?_)
        refine (encode_of a2 a9 (i + 1) c9 (List.replicate (i + 1) y) (C3 : Int) w9 H.out.1 HZ.out.1).mono ?_
        rintro e W5 ⟨A5, n5, C5, rfl, _, b5, _⟩
        rw [HI.out.2.2.2.2.2.2.1]
        have hb5 := HZ.out.2.trans (b5.mono HZ.out.2.size)
        clear c0 c1 c2 c3 c4 b5
        go_wp2_with fail
        refine (encode_of a2 none 0 0 [] (C3 : Int) W5 H.out.1 (itsIn_none _)).mono ?_
        rintro e W6 ⟨A6, n6, C6, rfl, _, b6, _⟩
        rw [HI.out.2.2.2.2.2.2.2.1]
        have HB6 : Hid (Below w.heap.size w W6) := hb5.trans (b6.mono hb5.size)
        clear hb5 b6
        have hw2 : IntKind.i64.wrap (2 * (C3 : Int)) = 2 * (C3 : Int) := by have := H.out.2.2; rw [IntKind.wrap_i64]; omega
        have htm := HT.out
        have hNN : ((C3 : Int) == (C3 : Int)) = true := by simp
        go_wp2_with (first
          | (go_at_call 11; refine (cknown_any _).mono ?_; rintro e W7 ⟨rfl, b7⟩; have hb7 := HB6.out.trans (b7.mono HB6.out.size))
          | (go_at_call 13; refine (room_of _ _).mono ?_; rintro e W8 ⟨rfl, hw8⟩; replace hw8 := hw8.symm; subst hw8))
        have hfin : wrap64 ((i : Int) * (1 - (p : Int) / 6)) ≤ roomI (2 * (C3 : Int)) := by
          have hC := H.out.2.2.2.2.1
          have hp := H.out.2.2.2.2.2
          have hr := HMr.out.1
          rw [← hr, hC]
          have h7 : p = 0 ∨ p = 1 ∨ p = 2 ∨ p = 3 ∨ p = 4 ∨ p = 5 ∨ p = 6 := by omega
          clear hr hC hp
          rcases h7 with h | h | h | h | h | h | h <;> rw [h] <;> decide +kernel
        rw [decide_eq_true hfin]
        go_ret
        exact ⟨rfl, hb7⟩
  · have hkb : (x1.k != 1) = true := by simp [hk]
    obtain ⟨y, hy⟩ : ∃ y : It, y = ⟨x1.t, x1.b, 2, 0, 0⟩ := ⟨_, rfl⟩
    have hq := HW.out.2.2
    have k1 : Blk (W.setCell ⟨q, 2, none⟩ (.int .u8 2)) q (itL ⟨x1.t, x1.b, 2, x1.s, x1.e⟩) 47 := HW.out.1.set 2 _
    have k2 : Blk ((W.setCell ⟨q, 2, none⟩ (.int .u8 2)).setCell ⟨q, 3, none⟩ (.int .u32 0)) q (itL ⟨x1.t, x1.b, 2, 0, x1.e⟩) 47 := k1.set 3 _
    have k3 : Blk (((W.setCell ⟨q, 2, none⟩ (.int .u8 2)).setCell ⟨q, 3, none⟩ (.int .u32 0)).setCell ⟨q, 4, none⟩ (.int .u16 0)) q (itL ⟨x1.t, x1.b, 2, 0, 0⟩) 47 := k2.set 4 _
    have bx3 : Below w.heap.size w (((W.setCell ⟨q, 2, none⟩ (.int .u8 2)).setCell ⟨q, 3, none⟩ (.int .u32 0)).setCell ⟨q, 4, none⟩ (.int .u16 0)) := ((HW.out.2.1.setCell (by show w.heap.size ≤ q; omega) _).setCell (by show w.heap.size ≤ q; omega) _).setCell (by show w.heap.size ≤ q; omega) _
    have fy : y.Fits := by rw [hy]; exact ⟨hFx.1, hFx.2.1, ⟨by show (0 : Int) ≤ 2; decide, by show (2 : Int) < 256; decide⟩, ⟨by show (0 : Int) ≤ 0; decide, by show (0 : Int) < 4294967296; decide⟩, ⟨by show (0 : Int) ≤ 0; decide, by show (0 : Int) < 65536; decide⟩⟩
    have ry : RightI y := by rw [hy]; exact .inr ⟨rfl, rfl, rfl⟩
    clear hk hq hFx k1 k2
    go_upto_region 6 with fail
    generalize hX3 : World.setCell (World.setCell (World.setCell W _ _) _ _) _ _ = X3 at k3 bx3 ⊢
    have d4 : X3.cell? ⟨q, 4, none⟩ = some (.int .u16 0) := k3.cell 4
    have g4 := k3.frozen 4
    have kx : Blk (X3.setCell ⟨q, 4, none⟩ (.int .u16 0)) q (itL y) 47 := by rw [hy]; exact k3.set 4 _
    have bx : Below w.heap.size w (X3.setCell ⟨q, 4, none⟩ (.int .u16 0)) := bx3.setCell (by show w.heap.size ≤ q; have := HW.out.2.2; omega) _
    clear hX3 hkb c2 c3 c4 f2 f3 f4 k3 bx3 hy
    go_upto_region 7 with fail
    generalize hX : World.setCell X3 _ _ = X at kx bx ⊢
    clear hX d4 g4
    obtain ⟨M, hMr⟩ : ∃ M : Nat, roomI (N : Int) = M := ⟨(roomI (N : Int)).toNat, by have := room_le (N : Int); omega⟩
    have cR := room_of (N : Int) X
    rw [hMr] at cR
    have hM0 : 0 < M ∧ M ≤ 214 := by
      have h1 := room_le (N : Int)
      have h2 : roomI (N : Int) = ((N : Int) - 19) / 19 := by unfold roomI; rw [if_pos H.out.2.1]
      have := H.out.2.2.1
      omega
    have HMr : Hid (roomI (N : Int) = M ∧ 0 < M ∧ M ≤ 214) := ⟨hMr, hM0⟩
    have HX : Hid (Blk X q (itL y) 47 ∧ Below w.heap.size w X ∧ y.Fits ∧ RightI y) := ⟨kx, bx, fy, ry⟩
    clear hMr hM0 kx bx fy ry
    go_upto_region 8 with (go_at_call 13; refine cR.mono ?_; rintro e X2 ⟨rfl, hx2⟩; replace hx2 := hx2.symm; subst hx2)
    clear cR
    go_wp2
    go_loopw [9, 10] (fun l x wr => ∃ (i : Nat) (a : Option Addr) (c : Nat), x = .int .i64 i ∧ l = .slice a i c ∧ i ≤ M ∧ wr.ownsRow X.heap.size 47 5 (.slice a i c) i (itC (List.replicate i y)) ∧ Below X.heap.size X wr) (fun _ x _ => M - (intOf x).toNat)
    case atStart => exact ⟨0, none, 0, rfl, rfl, Nat.zero_le _, World.ownsRow_nil _ _ _ _, Below.refl _ _⟩
    case round =>
      obtain ⟨i, a, c, rfl, rfl, hi, ow, bl⟩ := hrel
      have kr := HX.out.1.below bl HX.out.1.lt
      have c0 : wr.cell? ⟨q, 0, none⟩ = some (.int .u32 y.t) := kr.cell 0
      have c1 : wr.cell? ⟨q, 1, none⟩ = some (.int .u64 y.b) := kr.cell 1
      have c2 : wr.cell? ⟨q, 2, none⟩ = some (.int .u8 y.k) := kr.cell 2
      have c3 : wr.cell? ⟨q, 3, none⟩ = some (.int .u32 y.s) := kr.cell 3
      have c4 : wr.cell? ⟨q, 4, none⟩ = some (.int .u16 y.e) := kr.cell 4
      rcases Nat.lt_or_ge i M with hlt | hge
      · have hi' : (i : Int) < M := by omega
        have hwi : IntKind.i64.wrap ((i : Int) + 1) = (i : Int) + 1 := by have := HMr.out; rw [IntKind.wrap_i64]; omega
        obtain ⟨a9, c9, w9, e9, o9, b9⟩ := app_item ow y (by have := HMr.out; omega) bl.size
        have er : List.replicate i y ++ [y] = List.replicate (i + 1) y := (List.replicate_succ').symm
        rw [er] at o9
        have HZ : Hid (w9.ownsRow X.heap.size 47 5 (.slice a9 (i + 1) c9) (i + 1) (itC (List.replicate (i + 1) y)) ∧ Below X.heap.size X w9) := ⟨o9, bl.trans b9⟩
        have HE : Hid ((Builtin.append_ #[23, 23] 23 #[.slice a i c, .slice (some ⟨wr.heap.size, 0, none⟩) 1 1]).run Try.prog (wr.alloc (.cells #[.int .u32 y.t, .int .u64 y.b, .int .u8 y.k, .int .u32 y.s, .int .u16 y.e] 47)) = .ok (.slice a9 (i + 1) c9) w9) := e9
        clear e9 o9 b9 er ow bl kr
        go_wp2_with (at_builtin; refine cwpList_append_run rfl (.tmp 37) (.tmp 39) 23 23 rfl _ _ rfl rfl _ _ HE.out ?_)
        go_roundw
        case rel => exact ⟨i + 1, a9, c9, by simp, rfl, by omega, HZ.out⟩
        case measure => simp [intOf]; omega
      · obtain rfl : i = M := by omega
        have hfr : ∀ (j : Nat), ∀ x ∈ List.replicate j y, x.Fits := fun j x hx => by rw [(List.mem_replicate.1 hx).2]; exact HX.out.2.2.1
        have hits := own_its ow (by have := HMr.out; unfold maxLen; omega) (hfr i)
        have hg : GoodR (List.replicate i y) (N : Int) := ⟨by rw [List.length_replicate]; exact HMr.out.2.1, by rw [List.length_replicate, HMr.out.1]; exact Int.le_refl _, fun x hx => by rw [(List.mem_replicate.1 hx).2]; exact HX.out.2.2.2⟩
        have hno : ¬ GoodR (List.replicate (i + 1) y) (N : Int) := fun h => by have := h.2.1; rw [List.length_replicate, HMr.out.1] at this; omega
        have hno0 : ¬ GoodR ([] : List It) (N : Int) := fun h => by have := h.1; simp at this
        have e1 : encE (List.replicate i y) (N : Int) = 0 := by unfold encE; rw [if_pos hg]
        have e2 : encE (List.replicate (i + 1) y) (N : Int) = 110 := by unfold encE; rw [if_neg hno]
        have e3 : encE [] (N : Int) = 110 := by unfold encE; rw [if_neg hno0]
        have hbl : Below w.heap.size w wr := HX.out.2.1.trans (bl.mono HX.out.2.1.size)
        have hlenB : (encB a2 (List.replicate i y) (N : Int)).length = N := by unfold encB; rw [if_pos hg, Int.toNat_natCast, enc_length (by have := hg.bounds; omega)]
        have HI : Hid (ItsIn wr a i (List.replicate i y) ∧ wr.ownsRow X.heap.size 47 5 (.slice a i c) i (itC (List.replicate i y)) ∧ Below X.heap.size X wr ∧ Below w.heap.size w wr ∧ (∀ (j : Nat), ∀ x ∈ List.replicate j y, x.Fits) ∧ encE (List.replicate i y) (N : Int) = 0 ∧ encE (List.replicate (i + 1) y) (N : Int) = 110 ∧ encE [] (N : Int) = 110 ∧ (encB a2 (List.replicate i y) (N : Int)).length = N) := ⟨hits, ow, bl, hbl, hfr, e1, e2, e3, hlenB⟩
        clear hits ow bl hbl hfr hg hno hno0 e1 e2 e3 hlenB kr c0 c1 c2 c3 c4
        go_wp2_with fail
        refine (encode_of a2 a i c (List.replicate i y) (N : Int) wr H.out.1 HI.out.1).mono ?_
        rintro e W3 ⟨A3, n3, C3, rfl, ow3, b3, rfl⟩
        rw [HI.out.2.2.2.2.2.1]
        obtain rfl : C3 = N := by have := ow3.1; rw [u8s_length, HI.out.2.2.2.2.2.2.2.2] at this; omega
        have ow4 : W3.ownsRow X.heap.size 47 5 (.slice a i c) i (itC (List.replicate i y)) := by
          refine ⟨HI.out.2.1.1, ?_⟩
          rcases HI.out.2.1.2 with h2 | ⟨g, cap, cur, hv, hbg, hg, hr⟩
          · exact .inl h2
          · exact .inr ⟨g, cap, cur, hv, hbg, by rw [b3.block g (Array.getElem?_eq_some_iff.1 hg).1]; exact hg, hr⟩
        have bX3 : Below X.heap.size X W3 := HI.out.2.2.1.trans (b3.mono HI.out.2.2.1.size)
        have kr3 := HX.out.1.below bX3 HX.out.1.lt
        have c0 : W3.cell? ⟨q, 0, none⟩ = some (.int .u32 y.t) := kr3.cell 0
        have c1 : W3.cell? ⟨q, 1, none⟩ = some (.int .u64 y.b) := kr3.cell 1
        have c2 : W3.cell? ⟨q, 2, none⟩ = some (.int .u8 y.k) := kr3.cell 2
        have c3 : W3.cell? ⟨q, 3, none⟩ = some (.int .u32 y.s) := kr3.cell 3
        have c4 : W3.cell? ⟨q, 4, none⟩ = some (.int .u16 y.e) := kr3.cell 4
        obtain ⟨a9, c9, w9, e9, o9, b9⟩ := app_item ow4 y (by have := HMr.out; omega) bX3.size
        have er : List.replicate i y ++ [y] = List.replicate (i + 1) y := (List.replicate_succ').symm
        rw [er] at o9
        have HE : Hid ((Builtin.append_ #[23, 23] 23 #[.slice a i c, .slice (some ⟨W3.heap.size, 0, none⟩) 1 1]).run Try.prog (W3.alloc (.cells #[.int .u32 y.t, .int .u64 y.b, .int .u8 y.k, .int .u32 y.s, .int .u16 y.e] 47)) = .ok (.slice a9 (i + 1) c9) w9) := e9
        have bX9 := bX3.trans b9
        have HZ : Hid (ItsIn w9 a9 (i + 1) (List.replicate (i + 1) y) ∧ Below w.heap.size w w9) := ⟨own_its o9 (by have := HMr.out; unfold maxLen; omega) (HI.out.2.2.2.2.1 (i + 1)), HX.out.2.1.trans (bX9.mono HX.out.2.1.size)⟩
        clear e9 o9 b9 er ow3 ow4 bX3 bX9 kr3 b3
        go_wp2_with (at_builtin; refine cwpList_append_run rfl (.tmp 51) (.tmp 53) 23 23 rfl _ _ rfl rfl _ _ HE.out ?_)
        refine (encode_of a2 a9 (i + 1) c9 (List.replicate (i + 1) y) (C3 : Int) w9 H.out.1 HZ.out.1).mono ?_
        rintro e W5 ⟨A5, n5, C5, rfl, _, b5, _⟩
        rw [HI.out.2.2.2.2.2.2.1]
        have hb5 := HZ.out.2.trans (b5.mono HZ.out.2.size)
        clear c0 c1 c2 c3 c4 b5
        go_wp2_with fail
        refine (encode_of a2 none 0 0 [] (C3 : Int) W5 H.out.1 (itsIn_none _)).mono ?_
        rintro e W6 ⟨A6, n6, C6, rfl, _, b6, _⟩
        rw [HI.out.2.2.2.2.2.2.2.1]
        have HB6 : Hid (Below w.heap.size w W6) := hb5.trans (b6.mono hb5.size)
        clear hb5 b6
        have hw2 : IntKind.i64.wrap (2 * (C3 : Int)) = 2 * (C3 : Int) := by have := H.out.2.2; rw [IntKind.wrap_i64]; omega
        have htm := HT.out
        have hNN : ((C3 : Int) == (C3 : Int)) = true := by simp
        go_wp2_with (first
          | (go_at_call 11; refine (cknown_any _).mono ?_; rintro e W7 ⟨rfl, b7⟩; have hb7 := HB6.out.trans (b7.mono HB6.out.size))
          | (go_at_call 13; refine (room_of _ _).mono ?_; rintro e W8 ⟨rfl, hw8⟩; replace hw8 := hw8.symm; subst hw8))
        have hfin : wrap64 ((i : Int) * (1 - (p : Int) / 6)) ≤ roomI (2 * (C3 : Int)) := by
          have hC := H.out.2.2.2.2.1
          have hp := H.out.2.2.2.2.2
          have hr := HMr.out.1
          rw [← hr, hC]
          have h7 : p = 0 ∨ p = 1 ∨ p = 2 ∨ p = 3 ∨ p = 4 ∨ p = 5 ∨ p = 6 := by omega
          clear hr hC hp
          rcases h7 with h | h | h | h | h | h | h <;> rw [h] <;> decide +kernel
        rw [decide_eq_true hfin]
        go_ret
        exact ⟨rfl, hb7⟩

set_option maxRecDepth 100000 in
theorem lifted (os : Os) (started : os.Started) (H : Type) (enc : TypeId × Value → H) :
    ReturnsInHanded {} Try.checked os 8 .any (Rows.recRoomsSpec.pre6 enc Try.prog Try.f8 Rows.recRoomsRow.domain false) (Rows.recRoomsSpec.post enc Try.prog Try.f8 false true false false) := by
  refine returnsInHanded_of_change (C := Try.checked) own started (by kernel_rfl) Try.func8
    (ChangeSpec.witness6 (enc := enc) (C := Try.checked) false ⟨#[], #[.int .u8 0, .agg #[.int .u32 0, .int .u64 0, .int .u8 0, .int .u32 0, .int .u16 0], .int .u64 0], []⟩ 8 (by kernel_rfl) (by kernel_rfl) (by kernel_rfl) (by kernel_rfl)) ?_
  intro W base args ds gs before hval0 hW hcnd _
  have hval : ∀ (j : Nat) t v, Try.f8.params[j]? = some t → args[j]? = some v → Value.okWide Try.prog W .any base t v := hval0
  have hW' := hW
  obtain ⟨p, q, hA0, hV, rfl, hfz, hnd⟩ := hW
  have hA : DataW.TrodAll enc Try.prog W 0 (fun _ => true) true Try.f8.params.toList args.toList ds p := hA0
  rw [Try.params8] at hA hval
  obtain ⟨v0, vs0, d0, ds0, p0, q0, hargs, rfl, rfl, h0, r0⟩ := trodAll_cons hA
  obtain ⟨v1, vs1, d1, ds1, p1, q1, rfl, rfl, rfl, h1, r1⟩ := trodAll_cons r0
  obtain ⟨v2, vs2, d2, ds2, p2, q2, rfl, rfl, rfl, h2, r2⟩ := trodAll_cons r1
  obtain ⟨rfl, rfl, rfl⟩ := trodAll_nil r2
  obtain rfl : args = #[v0, v1, v2] := by cases args; simp_all
  obtain ⟨rfl, rfl⟩ := trodVars_none hV
  obtain ⟨a0, rfl, rfl, rfl, w0⟩ := open_int Try.underlying5 (hval 0 5 v0 rfl rfl) h0
  have k1 := h1
  have lt1 : ∀ x ∈ p1, x.block < W.heap.size := by obtain ⟨m, hm⟩ := k1; exact DataW.trod_lt m _ _ _ hm
  obtain ⟨x1, rfl, w1⟩ := open_item (hval 1 47 v1 rfl rfl) h1
  obtain ⟨a2, rfl, rfl, rfl, w2⟩ := open_int Try.underlying22 (hval 2 22 v2 rfl rfl) h2
  clear hA0 hval0
  refine (walk a0 x1 a2 W w0 w1 w2).mono fun e W' ⟨he, bel⟩ => ?_
  subst he
  exact ⟨_, rfl, _, _, _, [], _, [], hW', trodAll_mk1 (shut_bool Try.underlying4 _), (trodAll_cons_mk (shut_int Try.underlying5 w0) (trodAll_cons_mk (Below.trod laidOut (by kernel_rfl) (of_decide_eq_true (by kernel_rfl)) k1 bel lt1) (trodAll_cons_mk (shut_int Try.underlying22 w2) trodAll_mk0))), rfl, bel.frame _, fun h => by cases h⟩

theorem over : Rows.recRoomsRow.holds Try.pinned (OpenSpec.ofChange Rows.recRoomsSpec) :=
  OpenClaim.holds_of_wide 8 Try.f8 rfl rfl rfl rfl rfl rfl rfl ⟨rfl, rfl, rfl, rfl, rfl⟩ rfl rfl rfl rfl rfl (by kernel_rfl) Try.func8 (by kernel_rfl)
    (of_decide_eq_true (by kernel_rfl)) (by unfold Func.isWrapper; first | (rw [if_pos (by decide +kernel)]; kernel_rfl) | (rw [if_neg (by decide +kernel)]; exact ⟨rfl, rfl⟩))
    (fun os started H enc _ => lifted os started H enc)

end Go.Proofs.Ytggeadjebkhomaa.recRooms
namespace Go.Proofs.Ytggeadjebkhomaa
/-- The statement. -/
theorem recRooms_holds : Rows.RecRoomsSaid := recRooms.over
#print axioms recRooms_holds
end Go.Proofs.Ytggeadjebkhomaa
