/- What one call of req's Reply does, and of the document's Write and Reply. -/
import Derived.Test.YtlfmdplaoalahaaRWrite
namespace Go.Proofs.Ytlfmdplaoalahaa
open Go.RowKit
set_option linter.unusedVariables false
set_option maxRecDepth 4000

theorem pack16 (x y : Int) : (packL rpW [rpMagic, x, y]).length = 16 := by rw [packL_length _ _ (by simp [rpW]), off_rp]
theorem fits3 {a b c : Int} (ha : FitsU a) (hb : FitsU b) (hc : FitsU c) : ∀ z ∈ [a, b, c], FitsU z := by
  intro z hz
  simp only [List.mem_cons, List.not_mem_nil, or_false] at hz
  rcases hz with rfl | rfl | rfl <;> assumption
theorem rpM_fits : FitsU rpMagic := by unfold FitsU rpMagic; omega
theorem fits32U {x : Int} (h : Fits32 x) : FitsU x := by unfold Fits32 at h; unfold FitsU; omega
theorem nin_rpV {w : World} {g : Nat} {x y : Int} (hg : w.heap.size = g) (hx : Fits32 x) (hy : FitsU y) : NIn .u64 (w.alloc (.cells #[.int .u64 1732535960, .int .u64 x, .int .u64 y] 25)) (some ⟨g, 0, none⟩) 3 [rpMagic, x, y] :=
  nin_litU 25 hg rfl rfl (fits3 rpM_fits (fits32U hx) hy) (by omega)

set_option maxHeartbeats 1000000 in
theorem reply_of (x y : Int) (a : Option Addr) (n c : Nat) (D : List Int) (w : World) (hx : Fits32 x) (hy : FitsU y) (hD : BIn w a n D) (hnil : a = none → n = 0 ∧ c = 0) (hn : n ≤ 100000) :
    Calls Try.prog 17 #[.int .u32 x, .int .u64 y, .slice a n c] w fun e w' => ∃ A k C, e = .returned (.slice A k C) ∧ w'.ownsRow w.heap.size 5 1 (.slice A k C) k (u8s (rpL x y D)) ∧ Below w.heap.size w w' := by
  have H : Hid (BIn w a n D ∧ (a = none → n = 0 ∧ c = 0) ∧ Fits32 x ∧ FitsU y) := ⟨hD, hnil, hx, hy⟩
  have hux : IntKind.u64.wrap x = x := by rw [IntKind.wrap_u64]; unfold Fits32 at hx; omega
  clear hD hnil hx hy
  obtain ⟨P, hP⟩ : ∃ P, P = packL rpW [rpMagic, x, y] := ⟨_, rfl⟩
  have hPl := pack16 x y
  rw [← hP] at hPl
  have eY : rpL x y D = P ++ D := by unfold rpL; rw [← hP]
  rw [eY]
  have HP : Hid (P = packL rpW [rpMagic, x, y] ∧ P.length = 16) := ⟨hP, hPl⟩
  clear eY hP hPl
  go_enter Try.func17, Try.ntmps17
  go_wp2_with fail
  refine (repWidths_of w).mono ?_
  rintro e W1 ⟨rfl, rfl⟩
  go_wp2_with fail
  refine (pack_of (some ⟨w.heap.size, 0, none⟩) 3 3 rpW (some ⟨w.heap.size + 1, 0, none⟩) 3 3 [rpMagic, x, y] _ ((nin_rp rfl).alloc _) (nin_rpV (by simp) H.out.2.2.1 H.out.2.2.2) (by omega) (by omega)).mono ?_
  rw [← HP.out.1]
  rintro e w1 ⟨a1, k1, c1, rfl, hk1, ow1, b1⟩
  have hk : k1 = 16 := hk1.trans HP.out.2
  clear hk1
  subst hk
  have B1 : Hid (w1.ownsRow w.heap.size 5 1 (.slice a1 16 c1) 16 (u8s P) ∧ Below w.heap.size w w1 ∧ BIn w1 a n D) := ⟨own_lowerN ow1 (by simp; omega), below_lits b1, H.out.1.below (below_lits b1)⟩
  clear ow1 b1
  go_wp2_with (at_builtin; refine wpList_append_bin rfl (.tmp 12) (.tmp 13) rfl w.heap.size a1 16 c1 P rfl B1.out.1 a n c D rfl B1.out.2.2 H.out.2.1 (by omega) B1.out.2.1.size ?_; intro A C w2 ow2 b2)
  go_ret
  exact ⟨A, 16 + n, C, rfl, ow2, B1.out.2.1.trans b2⟩

set_option maxHeartbeats 1000000 in
theorem dReply_of (x y : Int) (a : Option Addr) (n c : Nat) (D : List Int) (w : World) (hx : Fits32 x) (hy : FitsU y) (hD : BIn w a n D) (hnil : a = none → n = 0 ∧ c = 0) (hn : n ≤ 100000) :
    Calls Try.prog 18 #[.int .u32 x, .int .u64 y, .slice a n c] w fun e w' => ∃ A k C, e = .returned (.slice A k C) ∧ w'.ownsRow w.heap.size 5 1 (.slice A k C) k (u8s (rpL x y D)) ∧ Below w.heap.size w w' := by
  have H : Hid (BIn w a n D ∧ (a = none → n = 0 ∧ c = 0) ∧ Fits32 x ∧ FitsU y) := ⟨hD, hnil, hx, hy⟩
  have hux : IntKind.u64.wrap x = x := by rw [IntKind.wrap_u64]; unfold Fits32 at hx; omega
  clear hD hnil hx hy
  obtain ⟨P, hP⟩ : ∃ P, P = packL rpW [rpMagic, x, y] := ⟨_, rfl⟩
  have hPl := pack16 x y
  rw [← hP] at hPl
  have eY : rpL x y D = P ++ D := by unfold rpL; rw [← hP]
  rw [eY]
  have HP : Hid (P = packL rpW [rpMagic, x, y] ∧ P.length = 16) := ⟨hP, hPl⟩
  clear eY hP hPl
  go_enter Try.func18, Try.ntmps18
  go_wp2_with fail
  refine (refPack_of (some ⟨w.heap.size, 0, none⟩) 3 3 rpW (some ⟨w.heap.size + 1, 0, none⟩) 3 3 [rpMagic, x, y] _ ((nin_rp rfl).alloc _) (nin_rpV (by simp) H.out.2.2.1 H.out.2.2.2) (by omega) (by omega)).mono ?_
  rw [← HP.out.1]
  rintro e w1 ⟨a1, k1, c1, rfl, hk1, ow1, b1⟩
  have hk : k1 = 16 := hk1.trans HP.out.2
  clear hk1
  subst hk
  have B1 : Hid (w1.ownsRow w.heap.size 5 1 (.slice a1 16 c1) 16 (u8s P) ∧ Below w.heap.size w w1 ∧ BIn w1 a n D) := ⟨own_lowerN ow1 (by simp; omega), below_lits b1, H.out.1.below (below_lits b1)⟩
  clear ow1 b1
  go_wp2_with (at_builtin; refine wpList_append_bin rfl (.tmp 14) (.tmp 15) rfl w.heap.size a1 16 c1 P rfl B1.out.1 a n c D rfl B1.out.2.2 H.out.2.1 (by omega) B1.out.2.1.size ?_; intro A C w2 ow2 b2)
  go_ret
  exact ⟨A, 16 + n, C, rfl, ow2, B1.out.2.1.trans b2⟩

set_option maxHeartbeats 2000000 in
theorem dWrite_of (r : Rq) (A : Option Addr) (k C : Nat) (D : List Int) (w : World) (hr : r.Fits) (hD : DIn w A k C D) (hk : k ≤ 100000) :
    Calls Try.prog 16 #[.agg (reqL r A k C).toArray] w fun e w' => ∃ a m c, e = .returned (.slice a m c) ∧ w'.ownsRow w.heap.size 5 1 (.slice a m c) m (u8s (wrL r D)) ∧ Below w.heap.size w w' := by
  obtain ⟨q, hq⟩ : ∃ q, q = w.heap.size := ⟨_, rfl⟩
  have b0 : Blk (w.alloc (.cells (reqL r A k C).toArray 28)) q (reqL r A k C) 28 := Blk.new' hq.symm rfl
  have bw : Below q w (w.alloc (.cells (reqL r A k C).toArray 28)) := (Below.refl _ _).alloc (by omega) _
  have hd : BIn (w.alloc (.cells (reqL r A k C).toArray 28)) A k D := hD.1.alloc _
  have hu : IntKind.u64.wrap r.ln = r.ln := by rw [IntKind.wrap_u64]; have := hr.2.2.2.2; unfold Fits32 at this; omega
  have u0 : IntKind.u64.wrap r.fl = r.fl := by rw [IntKind.wrap_u64]; have := hr.1; unfold Fits16 at this; omega
  have u1 : IntKind.u64.wrap r.kd = r.kd := by rw [IntKind.wrap_u64]; have := hr.2.1; unfold Fits16 at this; omega
  obtain ⟨Y, hY⟩ : ∃ Y, Y = wrL r D := ⟨_, rfl⟩
  rw [← hY, ← hq]
  go_enter Try.func16, Try.ntmps16
  go_upto_region 1 with fail
  rw [← hq]
  generalize hW : World.alloc w _ = W at b0 bw hd ⊢
  have hqw : q ≤ w.heap.size := by omega
  have hWs : q < W.heap.size := b0.lt
  have H : Hid (Blk W q (reqL r A k C) 28 ∧ Below q w W ∧ q ≤ w.heap.size ∧ r.Fits ∧ BIn W A k D ∧ (A = none → k = 0 ∧ C = 0) ∧ Y = wrL r D ∧ q < W.heap.size) := ⟨b0, bw, hqw, hr, hd, hD.2.2, hY, hWs⟩
  have c1 : W.cell? ⟨q, 1, none⟩ = some (.int .u16 r.kd) := b0.cell 1
  have c0 : W.cell? ⟨q, 0, none⟩ = some (.int .u16 r.fl) := b0.cell 0
  have c2 : W.cell? ⟨q, 2, none⟩ = some (.int .u64 r.ck) := b0.cell 2
  have c3 : W.cell? ⟨q, 3, none⟩ = some (.int .u64 r.ofs) := b0.cell 3
  have c4 : W.cell? ⟨q, 4, none⟩ = some (.int .u32 r.ln) := b0.cell 4
  have c5 : W.cell? ⟨q, 5, none⟩ = some (.slice A k C) := b0.cell 5
  have g0 : ∀ o, (W.alloc o).cell? ⟨q, 0, none⟩ = some (.int .u16 r.fl) := fun o => (b0.alloc o).cell 0
  have g1 : ∀ o, (W.alloc o).cell? ⟨q, 1, none⟩ = some (.int .u16 r.kd) := fun o => (b0.alloc o).cell 1
  have g2 : ∀ o, (W.alloc o).cell? ⟨q, 2, none⟩ = some (.int .u64 r.ck) := fun o => (b0.alloc o).cell 2
  have g3 : ∀ o, (W.alloc o).cell? ⟨q, 3, none⟩ = some (.int .u64 r.ofs) := fun o => (b0.alloc o).cell 3
  clear hW b0 bw hq hr hd hD hY hqw hWs
  by_cases hk1 : r.kd = 1
  · have HK : Hid (r.kd = 1) := hk1
    have hk' : (r.kd == 1) = true := by rw [hk1]; rfl
    clear hk1 hu
    have eY : Y = packL rqW (wrV r (k : Int)) ++ D := by rw [H.out.2.2.2.2.2.2.1]; unfold wrL wrN; rw [if_pos HK.out, if_pos HK.out, H.out.2.2.2.2.1.1]
    obtain ⟨P, hP⟩ : ∃ P, P = packL rqW (wrV r (k : Int)) := ⟨_, rfl⟩
    have hPl := pack28 r (k : Int)
    rw [← hP] at eY hPl
    have HP : Hid (Y = P ++ D ∧ P = packL rqW (wrV r (k : Int)) ∧ P.length = 28) := ⟨eY, hP, hPl⟩
    clear hP eY hPl
    have hkw : IntKind.u64.wrap (k : Int) = k := by rw [IntKind.wrap_u64]; omega
    go_wp2_with fail
    refine (refPack_of (some ⟨W.heap.size, 0, none⟩) 6 6 rqW (some ⟨W.heap.size + 1, 0, none⟩) 6 6 (wrV r (k : Int)) _ ((nin_rq rfl).alloc _) (lit_wr r k H.out.2.2.2.1 (by unfold FitsU; omega) _ _ (by simp)) (by omega) (by omega)).mono ?_
    rw [← HP.out.2.1]
    rintro e w1 ⟨a1, k1, d1, rfl, hk1, ow1, b1⟩
    have hk1' : k1 = 28 := hk1.trans HP.out.2.2
    clear hk1
    subst hk1'
    have B1 : Hid (w1.ownsRow W.heap.size 5 1 (.slice a1 28 d1) 28 (u8s P) ∧ Below W.heap.size W w1 ∧ BIn w1 A k D ∧ Blk w1 q (reqL r A k C) 28) := ⟨own_lowerN ow1 (by simp; omega), below_lits b1, H.out.2.2.2.2.1.below (below_lits b1), H.out.1.below (below_lits b1) H.out.2.2.2.2.2.2.2⟩
    clear ow1 b1
    have d1' : w1.cell? ⟨q, 1, none⟩ = some (.int .u16 r.kd) := B1.out.2.2.2.cell 1
    have d5 : w1.cell? ⟨q, 5, none⟩ = some (.slice A k C) := B1.out.2.2.2.cell 5
    go_wp2_with (at_builtin; refine wpList_append_bin rfl (.tmp 32) (.tmp 34) rfl W.heap.size a1 28 d1 P rfl B1.out.1 A k C D rfl B1.out.2.2.1 H.out.2.2.2.2.2.1 (by omega) B1.out.2.1.size ?_; intro A2 C2 w2 ow2 b2)
    go_ret
    refine ⟨A2, 28 + k, C2, rfl, ?_, H.out.2.1.trans ((B1.out.2.1.trans b2).mono (by have := H.out.2.2.2.2.2.2.2; omega))⟩
    rw [HP.out.1]
    exact own_lowerN ow2 (by have := H.out.2.2.2.2.2.2.2; omega)
  · have hk' : (r.kd == 1) = false := by simp [hk1]
    have hN : FitsU r.ln := fits32U H.out.2.2.2.1.2.2.2.2
    have eY : Y = packL rqW (wrV r r.ln) := by rw [H.out.2.2.2.2.2.2.1]; unfold wrL wrN; rw [if_neg hk1, if_neg hk1, List.append_nil]
    have HY : Hid (Y = packL rqW (wrV r r.ln) ∧ FitsU r.ln) := ⟨eY, hN⟩
    clear hk1 eY hN
    go_wp2_with fail
    refine (refPack_of (some ⟨W.heap.size, 0, none⟩) 6 6 rqW (some ⟨W.heap.size + 1, 0, none⟩) 6 6 (wrV r r.ln) _ ((nin_rq rfl).alloc _) (lit_wr r r.ln H.out.2.2.2.1 HY.out.2 _ _ (by simp)) (by omega) (by omega)).mono ?_
    rw [← HY.out.1]
    rintro e w1 ⟨a1, k1, d1, rfl, hk1, ow1, b1⟩
    have B1 : Hid (w1.ownsRow W.heap.size 5 1 (.slice a1 k1 d1) k1 (u8s Y) ∧ Below W.heap.size W w1 ∧ Blk w1 q (reqL r A k C) 28) := ⟨own_lowerN ow1 (by simp; omega), below_lits b1, H.out.1.below (below_lits b1) H.out.2.2.2.2.2.2.2⟩
    clear ow1 b1 hk1
    have d1' : w1.cell? ⟨q, 1, none⟩ = some (.int .u16 r.kd) := B1.out.2.2.cell 1
    go_wp2
    go_ret
    exact ⟨a1, k1, d1, rfl, own_lowerN B1.out.1 (by have := H.out.2.2.2.2.2.2.2; omega), below_via H.out.2.1 H.out.2.2.1 B1.out.2.1⟩
end Go.Proofs.Ytlfmdplaoalahaa
