/- Patterns are broken: some exchanges within the range. -/
import Derived.Test.YtkhldjpghjmgfaaSoPiv
import Derived.Test.YtkhldjpghjmgfaaSoLen
namespace Go.Proofs.Ytkhldjpghjmgfaa
open Go.RowKit Go.Sort
set_option linter.unusedVariables false
set_option maxRecDepth 4000

theorem npow_of (x : Nat) (hx : x ≤ 1000) (h1 : 1 ≤ x) (w : World) : Calls Try.prog 56 #[.int .i64 x] w fun e w' => (∃ M : Nat, e = .returned (.int .u64 M) ∧ 1 ≤ M ∧ M ≤ 2 * x) ∧ w' = w := by
  have c1 := blen_of x hx h1 w
  have b0 : (0 : Int) ≤ x := by omega
  have b1 : (x : Int) ≤ 1000 := by omega
  go_enter Try.func56, Try.ntmps56
  go_wp2_with (go_at_call 43; refine c1.mono ?_; rintro e w1 ⟨⟨L, rfl, hL, hL2⟩, rfl⟩)
  go_ret
  refine ⟨⟨2 ^ L, ?_, Nat.one_le_two_pow, hL⟩, rfl⟩
  have e : ((2 ^ L : Nat) : Int) = 2 ^ L := by push_cast; rfl
  have k : IntKind.u64.wrap (2 ^ L) = ((2 ^ L : Nat) : Int) := by
    have : 2 ^ L ≤ 2000 := by omega
    rw [← e]
    have h2 : ((2 ^ L : Nat) : Int) ≤ 2000 := by omega
    have h3 : (0 : Int) ≤ ((2 ^ L : Nat) : Int) := Int.natCast_nonneg _
    rw [e] at h2 h3
    rw [e]
    rw [IntKind.wrap_u64]
    omega
  show Ending.returned (.int .u64 (IntKind.u64.wrap (2 ^ L))) = _
  rw [k]
theorem xor_of (W : World) (B g n cap q : Nat) (d : Array Int) (s : Int) (w : World) (h : SR W w B g n cap d) (hb : Blk w q [.int .u64 s] 89) (hq : W.heap.size ≤ q) :
    Calls Try.prog 57 #[.pointer (some ⟨q, 0, none⟩)] w fun e w' => ∃ t : Int, e = .returned (.int .u64 t) ∧ SR W w' B g n cap d ∧ Blk w' q [.int .u64 t] 89 := by
  have z0 := hb.cell 0
  have z1 := hb.frozen 0
  simp only [List.getElem?_cons_zero] at z0
  have y0 : ∀ v : Value, (w.setCell ⟨q, 0, none⟩ v).cell? ⟨q, 0, none⟩ = some v := fun v => (hb.set 0 v).cell 0
  have y1 : ∀ v : Value, (w.setCell ⟨q, 0, none⟩ v).frozen? ⟨q, 0, none⟩ = false := fun v => (hb.set 0 v).frozen 0
  have y2 : ∀ v u : Value, ((w.setCell ⟨q, 0, none⟩ v).setCell ⟨q, 0, none⟩ u).cell? ⟨q, 0, none⟩ = some u := fun v u => ((hb.set 0 v).set 0 u).cell 0
  have y3 : ∀ v u : Value, ((w.setCell ⟨q, 0, none⟩ v).setCell ⟨q, 0, none⟩ u).frozen? ⟨q, 0, none⟩ = false := fun v u => ((hb.set 0 v).set 0 u).frozen 0
  have y4 : ∀ v u x : Value, (((w.setCell ⟨q, 0, none⟩ v).setCell ⟨q, 0, none⟩ u).setCell ⟨q, 0, none⟩ x).cell? ⟨q, 0, none⟩ = some x := fun v u x => (((hb.set 0 v).set 0 u).set 0 x).cell 0
  have HS : Hid (SR W w B g n cap d ∧ Blk w q [.int .u64 s] 89) := ⟨h, hb⟩
  clear h hb
  go_enter Try.func57, Try.ntmps57
  go_wp2_with fail
  go_region
  all_goals go_wp2_with fail
  generalize bits BinOp.xor IntKind.u64 s _ = s1
  go_region
  all_goals go_wp2_with fail
  generalize bits BinOp.xor IntKind.u64 s1 _ = s2
  go_region
  all_goals go_wp2
  generalize bits BinOp.xor IntKind.u64 s2 _ = s3
  go_ret
  refine ⟨s3, rfl, ?_⟩
  exact ⟨(((HS.out.1.setO hq 0 _).setO hq 0 _).setO hq 0 _).same rfl rfl rfl rfl, ((HS.out.2.set 0 _).set 0 _).set 0 _⟩
end Go.Proofs.Ytkhldjpghjmgfaa
