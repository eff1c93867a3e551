/- What one call of New does, the program's and the document's. -/
import Derived.Test.YteokhkoaieibmaaZOps
import Derived.Test.YteokhkoaieibmaaZRight
import Derived.Test.YteokhkoaieibmaaZRRight
namespace Go.Proofs.Yteokhkoaieibmaa
open Go.RowKit Go.Shelf
set_option linter.unusedVariables false
set_option maxRecDepth 4000

def emptyZ (n : Nat) : List Zn := List.replicate n ([], 0)
def Newed (T : TypeId) (W : World) (s : Sh) (e : Ending) (w' : World) : Prop :=
  Below W.heap.size W w' ∧ ((¬ RightS s ∧ e = .returned (.pointer none)) ∨ (RightS s ∧ ∃ p, e = .returned (.pointer (some ⟨p, 0, none⟩)) ∧ Dv T (fun x => W.heap.size ≤ x) w' p s (emptyZ s.z.toNat)))
theorem empty_wf {s : Sh} (h : RightS s) : Wf s (emptyZ s.z.toNat) := by
  refine ⟨h, ?_, fun z hz => ?_⟩
  · have := h.1; simp [emptyZ]; omega
  · have := (List.mem_replicate.1 hz).2
    subst this
    have := h.2.2.1
    simp; omega
theorem made_zones (n : Nat) : (madeCells (Value.agg #[.slice none 0 0, .int .i64 0]).cells (n * 2)).toList = zcells (List.replicate n (.slice none 0 0)) (emptyZ n) := by
  have hl : (zcells (List.replicate n (.slice none 0 0)) (emptyZ n)).length = n * 2 := by
    rw [zcells_length _ _ (by simp [emptyZ])]; simp [emptyZ]
  apply List.ext_getElem?
  intro i
  rcases Nat.lt_or_ge i (n * 2) with hi | hi
  · have hk : i / 2 < n := by omega
    obtain ⟨g0, g1⟩ := zcells_get (List.replicate n (.slice none 0 0)) (emptyZ n) (i / 2) (.slice none 0 0) ([], 0) (by simp [hk]) (by simp [emptyZ, hk])
    rcases Nat.mod_two_eq_zero_or_one i with h | h
    · have e : 2 * (i / 2) = i := by omega
      rw [e] at g0
      rw [g0]
      simp [madeCells, hi]
      show (#[Value.slice none 0 0, Value.int IntKind.i64 0])[i % 2]! = _
      rw [h]; rfl
    · have e : 2 * (i / 2) + 1 = i := by omega
      rw [e] at g1
      rw [g1]
      simp [madeCells, hi]
      show (#[Value.slice none 0 0, Value.int IntKind.i64 0])[i % 2]! = _
      rw [h]; rfl
  · rw [List.getElem?_eq_none (by rw [Array.length_toList, size_madeCells]; omega), List.getElem?_eq_none (by omega)]

theorem dev_new {T : TypeId} {W : World} {s : Sh} {n p g : Nat} (hT : T ≠ 76 ∧ T ≠ 39 ∧ T ≠ 5) (O : Nat → Prop) (hn : n ≤ 1000) (hp : Blk W p [.int .i64 s.z, .int .i64 s.zb, .int .i64 s.b, .int .i64 s.r, .slice (some ⟨g, 0, none⟩) n n] T) (hg : W.ownsRow 0 76 2 (.slice (some ⟨g, 0, none⟩) n n) n (madeCells (Value.agg #[.slice none 0 0, .int .i64 0]).cells (n * 2)).toList) (op : O p) (og : O g) : Dv T O W p s (emptyZ n) := by
  have hl : (emptyZ n).length = n := by simp [emptyZ]
  rw [made_zones] at hg
  refine ⟨g, n, List.replicate n (.slice none 0 0), ⟨by rw [hl]; exact hp, by rw [hl]; exact hg, op, og, by simp [emptyZ], fun i u z h1 h2 => ?_, fun i j u v r h1 h2 e1 _ => ?_, by rw [hl]; exact hn, hT⟩⟩
  · have hu := (List.mem_replicate.1 (List.mem_of_getElem? h1)).2
    have hz := (List.mem_replicate.1 (List.mem_of_getElem? h2)).2
    subst hu; subst hz
    exact RowAt.nil _ _
  · have hu := (List.mem_replicate.1 (List.mem_of_getElem? h1)).2
    subst hu
    cases e1

set_option maxHeartbeats 4000000 in
theorem new_of (s : Sh) (W : World) (hz : -9223372036854775808 ≤ s.z) : Calls Try.prog 29 #[.agg (shL s).toArray] W (Newed 104 W s) := by
  obtain ⟨q, hq⟩ : ∃ q, q = W.heap.size := ⟨_, rfl⟩
  have hb : Blk (W.alloc (.cells #[.int .i64 s.z, .int .i64 s.zb, .int .i64 s.b, .int .i64 s.r] 23)) q (shL s) 23 := Blk.new' hq.symm rfl
  have hbel : Below q W (W.alloc (.cells #[.int .i64 s.z, .int .i64 s.zb, .int .i64 s.b, .int .i64 s.r] 23)) := (Below.refl _ _).alloc (by omega) _
  simp only [shL]
  go_enter Try.func29, Try.ntmps29
  go_upto_region 1 with fail
  rw [← hq]
  generalize hW1 : World.alloc _ _ = W1 at *
  clear hW1
  have e0 : W1.cell? ⟨q, 0, none⟩ = some (.int .i64 s.z) := hb.cell 0
  have e1 : W1.cell? ⟨q, 1, none⟩ = some (.int .i64 s.zb) := hb.cell 1
  have e2 : W1.cell? ⟨q, 2, none⟩ = some (.int .i64 s.b) := hb.cell 2
  have e3 : W1.cell? ⟨q, 3, none⟩ = some (.int .i64 s.r) := hb.cell 3
  have hR := right_of s W1 hz
  simp only [shL] at hR
  have HA : Hid (Blk W1 q (shL s) 23 ∧ Below W.heap.size W W1) := ⟨hb, by rw [← hq]; exact hbel⟩
  clear hb hbel hq
  by_cases hr : RightS s
  · have hd : decide (RightS s) = true := by simp [hr]
    rw [hd] at hR
    have HR : Hid (Calls Try.prog 59 #[.agg #[.int .i64 s.z, .int .i64 s.zb, .int .i64 s.b, .int .i64 s.r]] W1 fun e w' => e = .returned (.bool true) ∧ Below W1.heap.size W1 w') := hR
    have HS : Hid (RightS s) := hr
    clear hR hd hr
    go_upto_region 3 with (go_at_call 59; refine HR.out.mono ?_; rintro e W2 ⟨rfl, b2⟩)
    have g0 := (b2.cell (old_block e0)).trans e0
    have g1 := (b2.cell (old_block e1)).trans e1
    have g2 := (b2.cell (old_block e2)).trans e2
    have g3 := (b2.cell (old_block e3)).trans e3
    obtain ⟨i0, hi, hz0, hz1, hz2⟩ := info_parts Try.zero_zone
    obtain ⟨n, hn⟩ : ∃ n : Nat, s.z = n := ⟨s.z.toNat, by have := HS.out.1; omega⟩
    have hnb := HS.out.2.1
    obtain ⟨w3, r3, o3, gr3⟩ := run_make_full (P := Try.prog) W2.drew 0 47 76 i0 _ 2 Try.underlying47 hi hz0 hz1 .i64 .i64 n (by rw [hz2]; omega) (by unfold maxLen; omega) (Nat.zero_le _)
    have HM : Hid (W2.heap.size = W2.drew.heap.size ∧ w3.ownsRow 0 76 2 (.slice (some ⟨W2.heap.size, 0, none⟩) n n) n (madeCells (Value.agg #[.slice none 0 0, .int .i64 0]).cells (n * 2)).toList ∧ Below W2.heap.size W2 w3 ∧ Below W1.heap.size W1 W2 ∧ s.z = n ∧ n ≤ 256) := ⟨rfl, o3, ⟨gr3.os, gr3.tape, gr3.output, gr3.size, fun k hk => gr3.block k hk (by simp)⟩, b2, hn, by omega⟩
    rw [hn] at g0
    have k0 := (HM.out.2.2.1.cell (old_block g0)).trans g0
    have k1 := (HM.out.2.2.1.cell (old_block g1)).trans g1
    have k2 := (HM.out.2.2.1.cell (old_block g2)).trans g2
    have k3 := (HM.out.2.2.1.cell (old_block g3)).trans g3
    clear e0 e1 e2 e3 o3 gr3 b2 hn hnb hi hz0 hz1 hz2
    go_region
    go_wp2
    go_ret
    obtain ⟨_, o3, b3, b2, hn, hn2⟩ := HM.out
    have hs1 := HA.out.2.size
    have hs2 := b2.size
    have hs3 := b3.size
    refine ⟨((HA.out.2.trans (b2.mono hs1)).trans (b3.mono (by omega))).alloc (by omega) _, .inr ⟨HS.out, _, rfl, ?_⟩⟩
    rw [hn, Int.toNat_natCast]
    refine dev_new (by decide) _ (by omega) ?_ (o3.alloc _) (by omega) (by omega)
    rw [hn]
    exact Blk.new' rfl rfl
  · have hd : decide (RightS s) = false := by simp [hr]
    rw [hd] at hR
    have HR : Hid (Calls Try.prog 59 #[.agg #[.int .i64 s.z, .int .i64 s.zb, .int .i64 s.b, .int .i64 s.r]] W1 fun e w' => e = .returned (.bool false) ∧ Below W1.heap.size W1 w') := hR
    have HS : Hid (¬ RightS s) := hr
    clear hR hd hr
    go_wp2_with (go_at_call 59; refine HR.out.mono ?_; rintro e W2 ⟨rfl, b2⟩)
    go_ret
    exact ⟨HA.out.2.trans (b2.mono HA.out.2.size), .inl ⟨HS.out, rfl⟩⟩
end Go.Proofs.Yteokhkoaieibmaa
