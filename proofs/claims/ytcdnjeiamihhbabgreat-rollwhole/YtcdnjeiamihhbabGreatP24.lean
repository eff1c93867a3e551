/- P24 -/
import Derived.Test.YtcdnjeiamihhbabGreatP23
set_option linter.unusedVariables false
set_option maxRecDepth 4000
namespace Go.Proofs.YtcdnjeiamihhbabGreat
open Go.RowKit
/-- A page: its bytes in a row of their own, and where the next number goes. -/
structure Pg (w : World) (g pb N k : Nat) (L : List Int) : Prop where
 hp : Blk w g [.slice (some ⟨pb, 0, none⟩) N N, .int .i64 (k : Nat)] 244
 hb : Blk w pb (u8s L) 5
 len : L.length = N
 ne : g ≠ pb
theorem Pg.below {w w' : World} {g pb N k : Nat} {L : List Int} (h : Pg w g pb N k L) (hb : Below w.heap.size w w') : Pg w' g pb N k L := ⟨h.hp.below hb h.hp.lt, h.hb.below hb h.hb.lt, h.len, h.ne⟩
theorem Pg.drew {w : World} {g pb N k : Nat} {L : List Int} (h : Pg w g pb N k L) : Pg w.drew g pb N k L := ⟨h.hp.drew, h.hb.drew, h.len, h.ne⟩
def PutE (w : World) (B g pb N k : Nat) (L P : List Int) (e : Ending) (w' : World) : Prop := e = .returned (.tuple #[]) ∧ Pg w' g pb N (k + P.length) (splice L k P) ∧ Below B w w' ∧ ∀ j, j < w.heap.size → j ≠ g → j ≠ pb → w'.heap[j]? = w.heap[j]?
theorem put_end {w w2 w4 : World} {B g pb N k : Nat} {L P : List Int} (h : Pg w g pb N k L) (hk : k + P.length ≤ N) (hBp : B ≤ pb) (hBg : B ≤ g) (p3 : Pg w2 g pb N k L) (b3 : Below w.heap.size w w2) (hg4 : Blk w4 pb (splice (u8s L) k (u8s P)) 5) (hb4 : Below pb w2 w4) (b4 : Blk w4 g [.slice (some ⟨pb, 0, none⟩) N N, .int .i64 (k : Nat)] 244) (ho4 : ∀ j, j ≠ pb → w4.heap[j]? = w2.heap[j]?) :
  Pg (w4.setCell ⟨g, 1, none⟩ (.int .i64 ((k : Int) + (P.length : Int)))) g pb N (k + P.length) (splice L k P) ∧ Below B w (w4.setCell ⟨g, 1, none⟩ (.int .i64 ((k : Int) + (P.length : Int)))) ∧ ∀ j, j < w.heap.size → j ≠ g → j ≠ pb → (w4.setCell ⟨g, 1, none⟩ (.int .i64 ((k : Int) + (P.length : Int)))).heap[j]? = w.heap[j]? := by
 have hl := h.hp.lt
 refine ⟨⟨b4.set 1 _, ?_, by rw [splice_length (by rw [h.len]; exact hk)]; exact h.len, h.ne⟩, ?_, fun j h1 h2 h3 => ?_⟩
 ·have := hg4.set_other (a := ⟨g, 1, none⟩) (fun e => h.ne e.symm) (.int .i64 ((k : Int) + (P.length : Int)))
  rw [u8s_splice] at this
  exact this
 ·exact ((b3.mono (by omega)).trans (hb4.mono hBp)).setCell hBg _
 ·rw [Below.heap_setCell _ _ _ _ (by exact h2), ho4 j h3, b3.block j h1]
set_option maxHeartbeats 2000000 in
theorem put_of (g pb N k : Nat) (L : List Int) (b : Option Addr) (n c : Nat) (ws : List Int) (d : Option Addr) (m f : Nat) (vs : List Int) (B : Nat) (w : World) (hp : Pg w g pb N k L) (hx : NIn .i64 w b n ws) (hy : NIn .u64 w d m vs)
  (hk : k + (packL ws vs).length ≤ N) (hkN : k < N) (hN : N ≤ 100000) (hn : n ≤ 1000) (hm : m ≤ 1000) (hBp : B ≤ pb) (hBg : B ≤ g) :
  Calls Tryz.prog 165 #[.pointer (some ⟨g, 0, none⟩), .slice b n c, .slice d m f] w (PutE w B g pb N k L (packL ws vs)) := by
 obtain ⟨P, hP⟩ : ∃ P, P = packL ws vs := ⟨_, rfl⟩
 have hPf := packL_fits ws vs
 have cP := pack_of b n c ws d m f vs w.drew hx hy (by omega) (by omega)
 rw [← hP] at hk hPf cP ⊢
 obtain ⟨K, hK⟩ : ∃ K, K = P.length := ⟨_, rfl⟩
 have c0 : w.cell? ⟨g, 0, none⟩ = some (.slice (some ⟨pb, 0, none⟩) N N) := hp.hp.cell 0
 have c1 : w.cell? ⟨g, 1, none⟩ = some (.int .i64 (k : Nat)) := hp.hp.cell 1
 have hsl : ∀ w : World, (Instr.slice 51 (.slice (some ⟨pb, 0, none⟩) N N) (some (.int .i64 (k : Int))) none none).run Tryz.prog w = .ok (.slice (some ⟨pb, k, none⟩) (N - k) (N - k)) w := fun w => by
  have := slice_back Tryz.underlying51 Tryz.one_bytes (some ⟨pb, 0, none⟩) N N k (by omega) w
  rw [if_neg (by omega)] at this
  simpa [Addr.add_mid] using this
 have hw : IntKind.i64.wrap ((k : Int) + ((u8s P).length : Nat)) = ((k + P.length : Nat) : Int) := by rw [IntKind.wrap_i64, u8s_length]; omega
 have H : Hid (Pg w g pb N k L ∧ K = P.length ∧ (∀ z ∈ P, Fits8 z) ∧ k + K ≤ N ∧ B ≤ pb ∧ B ≤ g ∧ N ≤ 100000 ∧ B ≤ w.heap.size) := ⟨hp, hK, hPf, by omega, hBp, hBg, hN, by have := hp.hp.lt; omega⟩
 clear hx hy hp hPf hP hk hkN hN hn hm hBp hBg hK
 go_enter Tryz.func165, Tryz.ntmps165
 go_region_law (first
  | (go_simp; go_at_call 159; refine cP.mono ?_; rintro e w2 ⟨a2, m2, d2, rfl, hm2, ow2, b2⟩; have hm3 : m2 = K := hm2.trans H.out.2.1.symm; clear hm2; subst hm3; have b3 : Below w.heap.size w w2 := (Below.refl _ _).drew.trans b2; have p3 := H.out.1.below b3; have k0 : w2.cell? ⟨g, 0, none⟩ = some (.slice (some ⟨pb, 0, none⟩) N N) := p3.hp.cell 0; have k1 : w2.cell? ⟨g, 1, none⟩ = some (.int .i64 (k : Nat)) := p3.hp.cell 1; have i3 : BIn w2 a2 m2 P := own_bin ow2 (by have := H.out; unfold maxLen; omega) H.out.2.2.1)
  | (refine step_copy_one rfl (.tmp 18) (.tmp 21) 51 51 rfl 5 Tryz.underlying51 Tryz.byte1 (some ⟨pb, k, none⟩) a2 (N - k) (N - k) m2 d2 rfl rfl pb k (u8s L) 5 p3.hb (u8s P) (by rw [u8s_length, ← H.out.2.1]; exact (Nat.min_eq_left (by have := H.out.2.2.2.1; omega)).symm) (copy_src i3) (by rw [u8s_length, u8s_length, ← H.out.2.1, p3.len]; exact H.out.2.2.2.1) (u8s_one _) ?_; intro w4 hg4 hb4 ho4 hs4; have b4 := blk_same p3.hp (ho4 g p3.ne); have q1 : w4.cell? ⟨g, 1, none⟩ = some (.int .i64 (k : Nat)) := b4.cell 1; have q2 := b4.frozen 1))
 all_goals (
  have HZ := put_end H.out.1 (by rw [← H.out.2.1]; exact H.out.2.2.2.1) H.out.2.2.2.2.1 H.out.2.2.2.2.2.1 p3 b3 hg4 hb4 b4 ho4
  clear hg4 hb4 ho4 hs4 b4 q1 q2 p3 i3 b3 ow2 b2 k0 k1 c0 c1 hsl hw cP
  go_end0
  exact ⟨rfl, HZ⟩)
end Go.Proofs.YtcdnjeiamihhbabGreat
