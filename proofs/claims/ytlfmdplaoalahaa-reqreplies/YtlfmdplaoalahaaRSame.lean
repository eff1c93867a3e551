/- What one call of SameRequest and SameBlocks does. -/
import Derived.Test.YtlfmdplaoalahaaRReply
namespace Go.Proofs.Ytlfmdplaoalahaa
open Go.RowKit
set_option linter.unusedVariables false
set_option maxRecDepth 4000

set_option maxHeartbeats 1000000 in
theorem sameRequest_of (r : Rq) (A : Option Addr) (k C : Nat) (A2 : Option Addr) (k2 C2 : Nat) (D : List Int) (w : World) (hx : BIn w A k D) (hy : BIn w A2 k2 D) :
    Calls Try.prog 13 #[.agg (reqL r A k C).toArray, .agg (reqL r A2 k2 C2).toArray] w fun e w' => e = .returned (.bool true) ∧ Below w.heap.size w w' := by
  obtain ⟨q, hq⟩ : ∃ q, q = w.heap.size := ⟨_, rfl⟩
  have b0 : Blk ((w.alloc (.cells (reqL r A k C).toArray 28)).alloc (.cells (reqL r A2 k2 C2).toArray 28)) q (reqL r A k C) 28 := (Blk.new' hq.symm rfl).alloc _
  have b1 : Blk ((w.alloc (.cells (reqL r A k C).toArray 28)).alloc (.cells (reqL r A2 k2 C2).toArray 28)) (q + 1) (reqL r A2 k2 C2) 28 := Blk.new' (by simp [hq]) rfl
  have bw : Below q w ((w.alloc (.cells (reqL r A k C).toArray 28)).alloc (.cells (reqL r A2 k2 C2).toArray 28)) := ((Below.refl _ _).alloc (by omega) _).alloc (by simp; omega) _
  have hx' := (hx.alloc (.cells (reqL r A k C).toArray 28)).alloc (.cells (reqL r A2 k2 C2).toArray 28)
  have hy' := (hy.alloc (.cells (reqL r A k C).toArray 28)).alloc (.cells (reqL r A2 k2 C2).toArray 28)
  rw [← hq]
  go_enter Try.func13, Try.ntmps13
  go_upto_region 1 with fail
  rw [← hq]
  generalize hW : World.alloc (World.alloc w _) _ = W at b0 b1 bw hx' hy' ⊢
  have h1 := str_of W A k C D hx'
  have h2 := str_of W A2 k2 C2 D hy'
  have c0 : W.cell? ⟨q, 0, none⟩ = some (.int .u16 r.fl) := b0.cell 0
  have c1 : W.cell? ⟨q, 1, none⟩ = some (.int .u16 r.kd) := b0.cell 1
  have c2 : W.cell? ⟨q, 2, none⟩ = some (.int .u64 r.ck) := b0.cell 2
  have c3 : W.cell? ⟨q, 3, none⟩ = some (.int .u64 r.ofs) := b0.cell 3
  have c4 : W.cell? ⟨q, 4, none⟩ = some (.int .u32 r.ln) := b0.cell 4
  have c5 : W.cell? ⟨q, 5, none⟩ = some (.slice A k C) := b0.cell 5
  have d0 : W.cell? ⟨q + 1, 0, none⟩ = some (.int .u16 r.fl) := b1.cell 0
  have d1 : W.cell? ⟨q + 1, 1, none⟩ = some (.int .u16 r.kd) := b1.cell 1
  have d2 : W.cell? ⟨q + 1, 2, none⟩ = some (.int .u64 r.ck) := b1.cell 2
  have d3 : W.cell? ⟨q + 1, 3, none⟩ = some (.int .u64 r.ofs) := b1.cell 3
  have d4 : W.cell? ⟨q + 1, 4, none⟩ = some (.int .u32 r.ln) := b1.cell 4
  have d5 : W.cell? ⟨q + 1, 5, none⟩ = some (.slice A2 k2 C2) := b1.cell 5
  have HB : Hid (Below q w W) := bw
  clear hW b0 b1 bw hx' hy' hx hy hq
  go_wp2
  go_ret
  exact ⟨rfl, HB.out⟩

set_option maxHeartbeats 1000000 in
theorem sameBlocks_of (a : Option Addr) (n c : Nat) (b : Option Addr) (m d : Nat) (Ds : List (List Int)) (w : World) (hx : BsIn w a n Ds) (hy : BsIn w b m Ds) (hn : n ≤ 1000000) :
    Calls Try.prog 22 #[.slice a n c, .slice b m d] w fun e w' => e = .returned (.bool true) ∧ ∃ k, w' = w.drewN k := by
  have hnm : n = m := by rw [← hx.1, ← hy.1]
  subst hnm
  have H : Hid (BsIn w a n Ds ∧ BsIn w b n Ds) := ⟨hx, hy⟩
  clear hx hy
  go_enter Try.func22, Try.ntmps22
  go_wp2
  go_loopw [5] (fun i wr => ∃ (k d : Nat), k ≤ n ∧ i = .int .i64 k ∧ wr = w.drewN d)
    (fun i _ => n - (intOf i).toNat)
  case atStart => exact ⟨0, 0, by omega, rfl, rfl⟩
  case round =>
    obtain ⟨k, d, hk, rfl, rfl⟩ := hrel
    by_cases hlt : k < n
    · have hlt' : (k : Int) < n := by omega
      obtain ⟨b1, o1, rfl, hc1⟩ := H.out.1.2.2.resolve_left (by omega)
      obtain ⟨b2, o2, rfl, hc2⟩ := H.out.2.2.2.resolve_left (by omega)
      have hkl : k < Ds.length := by rw [H.out.1.1]; exact hlt
      obtain ⟨A1, L1, C1, c1, s1⟩ := hc1 k Ds[k] (List.getElem?_eq_getElem hkl)
      obtain ⟨A2, L2, C2, c2, s2⟩ := hc2 k Ds[k] (List.getElem?_eq_getElem hkl)
      have h1 := fun j => str_of (w.drewN j) A1 L1 C1 Ds[k] s1
      have h2 := fun j => str_of (w.drewN j) A2 L2 C2 Ds[k] s2
      obtain ⟨S, eS⟩ : ∃ S, S = strOfNums Ds[k] := ⟨_, rfl⟩
      simp only [← eS] at h1 h2
      clear hc1 hc2 eS s1 s2 hkl
      go_wp2
      go_quiet (fail)
      go_wp2
      go_roundw
      case rel => exact ⟨k + 1, _, by omega, by go_num, rfl⟩
      case measure => simp [intOf]; omega
    · have hge : (n : Int) ≤ k := by omega
      go_wp2
      go_ret
      exact ⟨rfl, d, rfl⟩
end Go.Proofs.Ytlfmdplaoalahaa
