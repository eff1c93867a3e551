/- What one call of req's head, Write and Reply does, and of the document's. -/
import Derived.Test.YtlfmdplaoalahaaRReplies
import Derived.Deep.RegionLaw
namespace Go.Proofs.Ytlfmdplaoalahaa
open Go.RowKit
set_option linter.unusedVariables false
set_option maxRecDepth 4000

theorem below_more {q : Nat} {w X : World} (hX : Below q w X) (hq : q ≤ w.heap.size) (o : Obj) : Below q w (X.alloc o) := hX.alloc (Nat.le_trans hq hX.size) o
theorem below_lits {w w1 : World} {o p : Obj} (h : Below ((w.alloc o).alloc p).heap.size ((w.alloc o).alloc p) w1) : Below w.heap.size w w1 := (below_two rfl h).1
theorem lit_rq : ∀ (X : World) (g : Nat), X.heap.size = g → NIn .i64 (X.alloc (.cells #[.int .i64 4, .int .i64 2, .int .i64 2, .int .i64 8, .int .i64 8, .int .i64 4] 3)) (some ⟨g, 0, none⟩) 6 rqW := fun X g h => nin_rq h
theorem lit_wr (r : Rq) (n : Int) (h : r.Fits) (hn : FitsU n) : ∀ (X : World) (g : Nat), X.heap.size = g → NIn .u64 (X.alloc (.cells #[.int .u64 627086611, .int .u64 r.fl, .int .u64 r.kd, .int .u64 r.ck, .int .u64 r.ofs, .int .u64 n] 25)) (some ⟨g, 0, none⟩) 6 (wrV r n) :=
  fun X g e => nin_litU 25 e rfl rfl (wrV_fits h hn) (by omega)
theorem pack28 (r : Rq) (n : Int) : (packL rqW (wrV r n)).length = 28 := by rw [packL_length _ _ (by simp [rqW, wrV]), off_rq]

theorem Blk.two {w w1 : World} {g : Nat} {L : List Value} {t : TypeId} (h : Blk w g L t) (o p : Obj) (hb : Below ((w.alloc o).alloc p).drew.heap.size ((w.alloc o).alloc p).drew w1) : Blk w1 g L t := ((h.alloc o).alloc p).drew.below hb (by have := h.lt; simp; omega)
theorem NIn.drew {k : IntKind} {w : World} {a : Option Addr} {n : Nat} {zs : List Int} (h : NIn k w a n zs) : NIn k w.drew a n zs := h
set_option maxHeartbeats 2000000 in
theorem head_of (r : Rq) (A : Option Addr) (k C : Nat) (n : Int) (w : World) (hr : r.Fits) (hn : FitsU n) :
    Calls Try.prog 29 #[.agg (reqL r A k C).toArray, .int .u64 n] w fun e w' => ∃ a c, e = .returned (.slice a 28 c) ∧ w'.ownsRow w.heap.size 5 1 (.slice a 28 c) 28 (u8s (packL rqW (wrV r n))) ∧ Below w.heap.size w w' := by
  obtain ⟨q, hq⟩ : ∃ q, q = w.heap.size := ⟨_, rfl⟩
  have b0 : Blk (w.alloc (.cells (reqL r A k C).toArray 28)) q (reqL r A k C) 28 := Blk.new' hq.symm rfl
  have bw : Below q w (w.alloc (.cells (reqL r A k C).toArray 28)) := (Below.refl _ _).alloc (by omega) _
  have u0 : IntKind.u64.wrap r.fl = r.fl := by rw [IntKind.wrap_u64]; have := hr.1; unfold Fits16 at this; omega
  have u1 : IntKind.u64.wrap r.kd = r.kd := by rw [IntKind.wrap_u64]; have := hr.2.1; unfold Fits16 at this; omega
  have LV := lit_wr r n hr hn
  have cP := fun a b X h1 h2 => pack_of a 6 6 rqW b 6 6 (wrV r n) X h1 h2 (by omega) (by omega)
  obtain ⟨P, hP⟩ : ∃ P, P = packL rqW (wrV r n) := ⟨_, rfl⟩
  have hPl := pack28 r n
  rw [← hP] at hPl ⊢
  simp only [← hP] at cP
  rw [← hq]
  go_enter Try.func29, Try.ntmps29
  go_upto_region 1 with fail
  rw [← hq]
  generalize hW : World.alloc w _ = W at b0 bw ⊢
  have hqw : q ≤ w.heap.size := by omega
  have H : Hid (Blk W q (reqL r A k C) 28 ∧ Below q w W ∧ q ≤ w.heap.size) := ⟨b0, bw, hqw⟩
  have c0 : W.cell? ⟨q, 0, none⟩ = some (.int .u16 r.fl) := b0.cell 0
  have c1 : W.cell? ⟨q, 1, none⟩ = some (.int .u16 r.kd) := b0.cell 1
  have c2 : W.cell? ⟨q, 2, none⟩ = some (.int .u64 r.ck) := b0.cell 2
  have c3 : W.cell? ⟨q, 3, none⟩ = some (.int .u64 r.ofs) := b0.cell 3
  have g0 : ∀ o, (W.alloc o).cell? ⟨q, 0, none⟩ = some (.int .u16 r.fl) := fun o => (b0.alloc o).cell 0
  have g1 : ∀ o, (W.alloc o).cell? ⟨q, 1, none⟩ = some (.int .u16 r.kd) := fun o => (b0.alloc o).cell 1
  have g2 : ∀ o, (W.alloc o).cell? ⟨q, 2, none⟩ = some (.int .u64 r.ck) := fun o => (b0.alloc o).cell 2
  have g3 : ∀ o, (W.alloc o).cell? ⟨q, 3, none⟩ = some (.int .u64 r.ofs) := fun o => (b0.alloc o).cell 3
  have HL : Hid ((∀ (X : World) (g : Nat), X.heap.size = g → NIn .u64 (X.alloc (.cells #[.int .u64 627086611, .int .u64 r.fl, .int .u64 r.kd, .int .u64 r.ck, .int .u64 r.ofs, .int .u64 n] 25)) (some ⟨g, 0, none⟩) 6 (wrV r n)) ∧ P.length = 28) := ⟨LV, hPl⟩
  have i0 : ∀ o p, ((W.alloc o).alloc p).cell? ⟨q, 0, none⟩ = some (.int .u16 r.fl) := fun o p => ((b0.alloc o).alloc p).cell 0
  have i1 : ∀ o p, ((W.alloc o).alloc p).cell? ⟨q, 1, none⟩ = some (.int .u16 r.kd) := fun o p => ((b0.alloc o).alloc p).cell 1
  have i2 : ∀ o p, ((W.alloc o).alloc p).cell? ⟨q, 2, none⟩ = some (.int .u64 r.ck) := fun o p => ((b0.alloc o).alloc p).cell 2
  have i3 : ∀ o p, ((W.alloc o).alloc p).cell? ⟨q, 3, none⟩ = some (.int .u64 r.ofs) := fun o p => ((b0.alloc o).alloc p).cell 3
  clear hW b0 bw hq LV hP hPl hqw
  go_region_held3 (fun w' => w'.cell? ⟨q, 0, none⟩ = some (.int .u16 r.fl) ∧ w'.cell? ⟨q, 1, none⟩ = some (.int .u16 r.kd) ∧ w'.cell? ⟨q, 2, none⟩ = some (.int .u64 r.ck) ∧ w'.cell? ⟨q, 3, none⟩ = some (.int .u64 r.ofs)) (first | exact ⟨c0, c1, c2, c3⟩ | exact ⟨g0 _, g1 _, g2 _, g3 _⟩ | exact ⟨i0 _ _, i1 _ _, i2 _ _, i3 _ _⟩ | exact ⟨p0, p1, p2, p3⟩)
    (first
    | (go_simp; go_at_call 25; refine (reqWidths_of _).mono ?_; rintro e W1 ⟨rfl, rfl⟩)
    | (go_simp; go_at_call 31; refine (cP _ _ _ (by first | exact ((nin_rq rfl).alloc _).drew | exact (nin_rq (by simp)).drew) (by first | exact (HL.out.1 _ _ (by simp)).drew | exact ((HL.out.1 _ _ rfl).alloc _).drew)).mono ?_; rintro e w2 ⟨a2, m2, d2, rfl, hm2, ow2, b2⟩; have hm : m2 = 28 := (hm2.trans HL.out.2); clear hm2; subst hm; have b3 := (H.out.1.two _ _ b2); have p0 : w2.cell? ⟨q, 0, none⟩ = some (.int .u16 r.fl) := b3.cell 0; have p1 : w2.cell? ⟨q, 1, none⟩ = some (.int .u16 r.kd) := b3.cell 1; have p2 : w2.cell? ⟨q, 2, none⟩ = some (.int .u64 r.ck) := b3.cell 2; have p3 : w2.cell? ⟨q, 3, none⟩ = some (.int .u64 r.ofs) := b3.cell 3))
  all_goals (
    have hb : Below q w w2 := below_via (below_more (below_more H.out.2.1 H.out.2.2 _) H.out.2.2 _).drew H.out.2.2 b2
    have Z : Hid (w2.ownsRow q 5 1 (.slice a2 28 d2) 28 (u8s P) ∧ Below q w w2) := ⟨own_lowerN ow2 (by have := H.out.2.1.size; have := H.out.2.2; simp; omega), hb⟩
    clear ow2 b2 b3 hb p0 p1 p2 p3 c0 c1 c2 c3 g0 g1 g2 g3 i0 i1 i2 i3
    go_wp2
    go_ret
    exact ⟨a2, d2, rfl, Z.out.1, Z.out.2⟩)

/-- A request's Data in the world. -/
def DIn (w : World) (A : Option Addr) (k C : Nat) (D : List Int) : Prop := BIn w A k D ∧ k ≤ C ∧ (A = none → k = 0 ∧ C = 0)
theorem DIn.below {w w' : World} {A : Option Addr} {k C : Nat} {D : List Int} (h : DIn w A k C D) (hb : Below w.heap.size w w') : DIn w' A k C D := ⟨h.1.below hb, h.2⟩
theorem DIn.alloc {w : World} {A : Option Addr} {k C : Nat} {D : List Int} (h : DIn w A k C D) (o : Obj) : DIn (w.alloc o) A k C D := ⟨h.1.alloc o, h.2⟩
set_option maxHeartbeats 2000000 in
theorem write_of (r : Rq) (A : Option Addr) (k C : Nat) (D : List Int) (w : World) (hr : r.Fits) (hD : DIn w A k C D) (hk : k ≤ 100000) :
    Calls Try.prog 15 #[.agg (reqL r A k C).toArray] w fun e w' => ∃ a m c, e = .returned (.slice a m c) ∧ w'.ownsRow w.heap.size 5 1 (.slice a m c) m (u8s (wrL r D)) ∧ Below w.heap.size w w' := by
  obtain ⟨q, hq⟩ : ∃ q, q = w.heap.size := ⟨_, rfl⟩
  have b0 : Blk (w.alloc (.cells (reqL r A k C).toArray 28)) q (reqL r A k C) 28 := Blk.new' hq.symm rfl
  have bw : Below q w (w.alloc (.cells (reqL r A k C).toArray 28)) := (Below.refl _ _).alloc (by omega) _
  have hd : BIn (w.alloc (.cells (reqL r A k C).toArray 28)) A k D := hD.1.alloc _
  have hu : IntKind.u64.wrap r.ln = r.ln := by rw [IntKind.wrap_u64]; have := hr.2.2.2.2; unfold Fits32 at this; omega
  obtain ⟨Y, hY⟩ : ∃ Y, Y = wrL r D := ⟨_, rfl⟩
  rw [← hY, ← hq]
  go_enter Try.func15, Try.ntmps15
  go_upto_region 1 with fail
  rw [← hq]
  generalize hW : World.alloc w _ = W at b0 bw hd ⊢
  have hqw : q ≤ w.heap.size := by omega
  have hWs : q < W.heap.size := b0.lt
  have H : Hid (Blk W q (reqL r A k C) 28 ∧ Below q w W ∧ q ≤ w.heap.size ∧ r.Fits ∧ BIn W A k D ∧ (A = none → k = 0 ∧ C = 0) ∧ Y = wrL r D ∧ q < W.heap.size) := ⟨b0, bw, hqw, hr, hd, hD.2.2, hY, hWs⟩
  have c1 : W.cell? ⟨q, 1, none⟩ = some (.int .u16 r.kd) := b0.cell 1
  have c0 : W.cell? ⟨q, 0, none⟩ = some (.int .u16 r.fl) := b0.cell 0
  have c2 : W.cell? ⟨q, 2, none⟩ = some (.int .u64 r.ck) := b0.cell 2
  have c3 : W.cell? ⟨q, 3, none⟩ = some (.int .u64 r.ofs) := b0.cell 3
  have c4 : W.cell? ⟨q, 4, none⟩ = some (.int .u32 r.ln) := b0.cell 4
  have c5 : W.cell? ⟨q, 5, none⟩ = some (.slice A k C) := b0.cell 5
  clear hW b0 bw hq hr hd hD hY hqw hWs
  by_cases hk1 : r.kd = 1
  · have HK : Hid (r.kd = 1) := hk1
    have hk' : (r.kd != 1) = false := by rw [hk1]; rfl
    clear hk1 hu
    have cH := fun X => head_of r A k C (k : Int) X H.out.2.2.2.1 (by unfold FitsU; omega)
    go_wp2
    have eY : Y = packL rqW (wrV r (k : Int)) ++ D := by rw [H.out.2.2.2.2.2.2.1]; unfold wrL wrN; rw [if_pos HK.out, if_pos HK.out, H.out.2.2.2.2.1.1]
    obtain ⟨P, hP⟩ : ∃ P, P = packL rqW (wrV r (k : Int)) := ⟨_, rfl⟩
    simp only [← hP] at cH
    rw [← hP] at eY
    have HP : Hid (Y = P ++ D) := eY
    clear hP eY
    have hkw : IntKind.u64.wrap (k : Int) = k := by rw [IntKind.wrap_u64]; omega
    go_region_law (first
      | (go_simp; go_at_call 29; refine (cH _).mono ?_; rintro e w2 ⟨a2, d2, rfl, ow2, b2⟩; have k5 : w2.cell? ⟨q, 5, none⟩ = some (.slice A k C) := (H.out.1.drew.below b2 H.out.2.2.2.2.2.2.2).cell 5; have HZ : Hid (w2.ownsRow W.heap.size 5 1 (.slice a2 28 d2) 28 (u8s P) ∧ Below W.heap.size W w2 ∧ BIn w2 A k D) := ⟨ow2, (Below.refl _ _).drew.trans b2, H.out.2.2.2.2.1.below ((Below.refl _ _).drew.trans b2)⟩; clear ow2 b2)
      | (refine step_append_nin (k := .u8) (size := 1) Try.underlying22 Try.zero_u8 (by decide) rfl (.tmp 16) (.tmp 18) rfl W.heap.size a2 28 d2 P rfl HZ.out.1 A k C D rfl HZ.out.2.2.n H.out.2.2.2.2.2.1 (by omega) HZ.out.2.1.size ?_; intro A8 C8 w8 ow8 bl8))
    all_goals (
      have Z8 : Hid (w8.ownsRow W.heap.size 5 1 (.slice A8 (28 + k) C8) (28 + k) (u8s (P ++ D)) ∧ Below W.heap.size W w8) := ⟨ow8, HZ.out.2.1.trans bl8⟩
      clear ow8 bl8
      go_wp2
      go_ret
      refine ⟨A8, 28 + k, C8, rfl, ?_, H.out.2.1.trans (Z8.out.2.mono (by have := H.out.2.2.2.2.2.2.2; omega))⟩
      rw [HP.out]
      exact own_lowerN Z8.out.1 (by have := H.out.2.2.2.2.2.2.2; omega))
  · have hk' : (r.kd != 1) = true := by simp [hk1]
    have hN : FitsU r.ln := by have := H.out.2.2.2.1.2.2.2.2; unfold Fits32 at this; unfold FitsU; omega
    have eY : Y = packL rqW (wrV r r.ln) := by rw [H.out.2.2.2.2.2.2.1]; unfold wrL wrN; rw [if_neg hk1, if_neg hk1, List.append_nil]
    have HY : Hid (Y = packL rqW (wrV r r.ln) ∧ FitsU r.ln) := ⟨eY, hN⟩
    clear hk1 eY hN
    go_wp2_with fail
    refine (head_of r A k C r.ln W H.out.2.2.2.1 HY.out.2).mono ?_
    rintro e w2 ⟨a2, d2, rfl, ow2, b2⟩
    have HZ : Hid (w2.ownsRow W.heap.size 5 1 (.slice a2 28 d2) 28 (u8s (packL rqW (wrV r r.ln))) ∧ Below W.heap.size W w2) := ⟨ow2, b2⟩
    clear ow2 b2
    go_wp2
    go_ret
    refine ⟨a2, 28, d2, rfl, ?_, below_via H.out.2.1 H.out.2.2.1 HZ.out.2⟩
    rw [HY.out.1]
    exact own_lowerN HZ.out.1 (by have := H.out.2.2.2.2.2.2.2; omega)
end Go.Proofs.Ytlfmdplaoalahaa
