/- A request in the world; what one call of req's request does, and of what Next defers. -/
import Derived.Test.YtlfmdplaoalahaaRRead
import Derived.BigRegion
import Derived.Defers
import Derived.Recover
namespace Go.Proofs.Ytlfmdplaoalahaa
open Go.RowKit
set_option linter.unusedVariables false
set_option maxRecDepth 4000

def reqL (r : Rq) (A : Option Addr) (k C : Nat) : List Value := [.int .u16 r.fl, .int .u16 r.kd, .int .u64 r.ck, .int .u64 r.ofs, .int .u32 r.ln, .slice A k C]
theorem Try.info_request : (Try.prog.info? 28).map (·.size) = some 6 := by kernel_rfl
theorem req_size (r : Rq) (A : Option Addr) (k C : Nat) : (Try.prog.info? 28).map (·.size) = some (reqL r A k C).toArray.size := Try.info_request
theorem req_all (r : Rq) (A : Option Addr) (k C : Nat) : (reqL r A k C).toArray.all (·.oneCell') = true := all_oneCell_toArray (by intro v hv; simp only [reqL, List.mem_cons, List.not_mem_nil, or_false] at hv; rcases hv with rfl | rfl | rfl | rfl | rfl | rfl <;> rfl)

set_option maxHeartbeats 1000000 in
theorem request_of (b o n c : Nat) (r : Rq) (w : World) (c0 : w.cell? ⟨b, o, none⟩ = some (.int .u64 r.fl)) (c1 : w.cell? ⟨b, o + 1, none⟩ = some (.int .u64 r.kd)) (c2 : w.cell? ⟨b, o + 2, none⟩ = some (.int .u64 r.ck)) (c3 : w.cell? ⟨b, o + 3, none⟩ = some (.int .u64 r.ofs)) (c4 : w.cell? ⟨b, o + 4, none⟩ = some (.int .u64 r.ln)) (hr : r.Fits) :
    Calls Try.prog 26 #[.slice (some ⟨b, o, none⟩) 5 c] w fun e w' => e = .returned (.agg (reqL r none 0 0).toArray) ∧ Below w.heap.size w w' := by
  obtain ⟨q, hq⟩ : ∃ q, q = w.heap.size := ⟨_, rfl⟩
  obtain ⟨fl, kd, ck, ofs, ln⟩ := r
  obtain ⟨⟨f0, f1⟩, ⟨k0, k1⟩, _, _, ⟨l0, l1⟩⟩ := hr
  dsimp only at c0 c1 c2 c3 c4 f0 f1 k0 k1 l0 l1
  have u0 : IntKind.u16.wrap fl = fl := by rw [IntKind.wrap_u16]; omega
  have u1 : IntKind.u16.wrap kd = kd := by rw [IntKind.wrap_u16]; omega
  have u4 : IntKind.u32.wrap ln = ln := by rw [IntKind.wrap_u32]; omega
  clear f0 f1 k0 k1 l0 l1
  have b0 : Blk (w.alloc (.cells #[.int .u16 0, .int .u16 0, .int .u64 0, .int .u64 0, .int .u32 0, .slice none 0 0] 28)) q (reqL rq0 none 0 0) 28 := Blk.new' hq.symm rfl
  have bw : Below q w (w.alloc (.cells #[.int .u16 0, .int .u16 0, .int .u64 0, .int .u64 0, .int .u32 0, .slice none 0 0] 28)) := (Below.refl _ _).alloc (by omega) _
  have HQ : Hid (q = w.heap.size) := hq
  rw [← hq]
  go_enter Try.func26, Try.ntmps26
  go_upto_region 1 with fail
  rw [← hq]
  have bne : b ≠ q := by have := old_block c0; have := HQ.out; simp only at *; omega
  have c0' : (w.alloc (.cells #[.int .u16 0, .int .u16 0, .int .u64 0, .int .u64 0, .int .u32 0, .slice none 0 0] 28)).cell? ⟨b, o, none⟩ = some (.int .u64 fl) := by rw [bw.cell (by rw [hq]; exact old_block c0)]; exact c0
  have c1' : (w.alloc (.cells #[.int .u16 0, .int .u16 0, .int .u64 0, .int .u64 0, .int .u32 0, .slice none 0 0] 28)).cell? ⟨b, o + 1, none⟩ = some (.int .u64 kd) := by rw [bw.cell (by rw [hq]; exact old_block c1)]; exact c1
  have c2' : (w.alloc (.cells #[.int .u16 0, .int .u16 0, .int .u64 0, .int .u64 0, .int .u32 0, .slice none 0 0] 28)).cell? ⟨b, o + 2, none⟩ = some (.int .u64 ck) := by rw [bw.cell (by rw [hq]; exact old_block c2)]; exact c2
  have c3' : (w.alloc (.cells #[.int .u16 0, .int .u16 0, .int .u64 0, .int .u64 0, .int .u32 0, .slice none 0 0] 28)).cell? ⟨b, o + 3, none⟩ = some (.int .u64 ofs) := by rw [bw.cell (by rw [hq]; exact old_block c3)]; exact c3
  have c4' : (w.alloc (.cells #[.int .u16 0, .int .u16 0, .int .u64 0, .int .u64 0, .int .u32 0, .slice none 0 0] 28)).cell? ⟨b, o + 4, none⟩ = some (.int .u64 ln) := by rw [bw.cell (by rw [hq]; exact old_block c4)]; exact c4
  clear c0 c1 c2 c3 c4 hq
  generalize hW : World.alloc w _ = W at c0' c1' c2' c3' c4' b0 bw ⊢
  clear hW
  have e0 : W.cell? ⟨q, 0, none⟩ = some (.int .u16 0) := b0.cell 0
  have e1 : W.cell? ⟨q, 1, none⟩ = some (.int .u16 0) := b0.cell 1
  have e2 : W.cell? ⟨q, 2, none⟩ = some (.int .u64 0) := b0.cell 2
  have e3 : W.cell? ⟨q, 3, none⟩ = some (.int .u64 0) := b0.cell 3
  have e4 : W.cell? ⟨q, 4, none⟩ = some (.int .u32 0) := b0.cell 4
  have e5 : W.cell? ⟨q, 5, none⟩ = some (.slice none 0 0) := b0.cell 5
  have z0 := b0.frozen 0
  have z1 := b0.frozen 1
  have z2 := b0.frozen 2
  have z3 := b0.frozen 3
  have z4 := b0.frozen 4
  have z5 := b0.frozen 5
  have qne : q ≠ b := fun e => bne e.symm
  have HB : Hid (Blk W q (reqL rq0 none 0 0) 28 ∧ Below q w W) := ⟨b0, bw⟩
  clear b0 bw
  go_wp2
  go_region
  go_wp2
  have b3 : Blk ((((((W.setCell ⟨q, 0, none⟩ (.int .u16 fl)).setCell ⟨q, 1, none⟩ (.int .u16 kd)).setCell ⟨q, 2, none⟩ (.int .u64 ck)).setCell ⟨q, 3, none⟩ (.int .u64 ofs)).setCell ⟨q, 4, none⟩ (.int .u32 ln)).setCell ⟨q, 5, none⟩ (.slice none 0 0)).drew q (reqL ⟨fl, kd, ck, ofs, ln⟩ none 0 0) 28 := (HB.out.1.setAll (vs := reqL ⟨fl, kd, ck, ofs, ln⟩ none 0 0) (by rfl)).drew
  exact bodyPost_ret (v := .agg (reqL ⟨fl, kd, ck, ofs, ln⟩ none 0 0).toArray) (results_cell_one (p := 2) (ty := 28) rfl _ _ q _ _ _ rfl b3 Try.underlying28 rfl Try.info_request) rfl ⟨rfl, (((((((HB.out.2.setCell (Nat.le_refl _) _).setCell (Nat.le_refl _) _).setCell (Nat.le_refl _) _).setCell (Nat.le_refl _) _).setCell (Nat.le_refl _) _).setCell (Nat.le_refl _) _)).drew⟩

/-- What Next defers, where nothing panics. -/
theorem catchN_idle (p q r : Addr) (w : World) :
    CallsD Try.prog 23 #[.pointer (some p), .pointer (some q), .pointer (some r)] .returning w fun e u' w' => e = .returned (.tuple #[]) ∧ u' = .returning ∧ w' = w := by
  refine callsD_of_wpS Try.func23 rfl fun c₀ cs hu => ?_
  apply wpS_seq
  apply wpS_region
  simp [wpOpsS, go_sem, recoverD, hu, Try.ntmps23, Exit.thenS]
  refine wpS_cond (t := false) (by simp [Act.eval, Array.replicate]) ?_
  simp only [Bool.false_eq_true, if_false]
  refine wpS_of_wp (wp_skip ?_)
  cases c₀
  simp_all [bodyPostS, results, Try.results23]
theorem catchN_panicking (g : Nat) (u : TypeId) (pv : Value) (older : List PanicEntry) (w : World) (L : List Value) (v1 v2 : Value)
    (hp : Blk w g L 28) (hL : L.length = 6) (hq : w.cell? ⟨g + 1, 0, none⟩ = some v1) (hr : w.cell? ⟨g + 2, 0, none⟩ = some v2) (zq : w.frozen? ⟨g + 1, 0, none⟩ = false) (zr : w.frozen? ⟨g + 2, 0, none⟩ = false) :
    CallsD Try.prog 23 #[.pointer (some ⟨g, 0, none⟩), .pointer (some ⟨g + 1, 0, none⟩), .pointer (some ⟨g + 2, 0, none⟩)] (.panicking ({ v := .iface u pv, recovered := false } :: older)) w fun e u' w' =>
      e = .returned (.tuple #[]) ∧ u' = .panicking ({ v := .iface u pv, recovered := true } :: older) ∧ w' = ((w.setCells g 0 (reqL rq0 none 0 0)).setCell ⟨g + 1, 0, none⟩ (.int .i64 0)).setCell ⟨g + 2, 0, none⟩ (.int .u16 80) := by
  match L, hL with
  | [x0, x1, x2, x3, x4, x5], _ =>
  have e0 : w.cell? ⟨g, 0, none⟩ = some x0 := hp.cell 0
  have e1 : w.cell? ⟨g, 1, none⟩ = some x1 := hp.cell 1
  have e2 : w.cell? ⟨g, 2, none⟩ = some x2 := hp.cell 2
  have e3 : w.cell? ⟨g, 3, none⟩ = some x3 := hp.cell 3
  have e4 : w.cell? ⟨g, 4, none⟩ = some x4 := hp.cell 4
  have e5 : w.cell? ⟨g, 5, none⟩ = some x5 := hp.cell 5
  have z0 := hp.frozen 0
  have z1 := hp.frozen 1
  have z2 := hp.frozen 2
  have z3 := hp.frozen 3
  have z4 := hp.frozen 4
  have z5 := hp.frozen 5
  refine callsD_of_wpS Try.func23 rfl fun c₀ cs hu => ?_
  apply wpS_seq
  apply wpS_region
  simp [wpOpsS, go_sem, recoverD, hu, Try.ntmps23, Exit.thenS]
  refine wpS_cond (t := true) (by simp [Act.eval, Array.replicate]) ?_
  simp only [if_true]
  apply wpS_region
  simp [wpOpsS, go_sem, e0, e1, e2, e3, e4, e5, z0, z1, z2, z3, z4, z5, hq, hr, zq, zr, bodyPostS, results, Try.results23, World.setCells, reqL, rq0]
end Go.Proofs.Ytlfmdplaoalahaa
