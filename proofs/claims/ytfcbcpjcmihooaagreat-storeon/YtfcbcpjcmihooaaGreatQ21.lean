/- Texts of this seat, one behind the other: StIv, StLw, StLx. -/
import Derived.Test.YtfcbcpjcmihooaaGreatP26
import Derived.Test.YtfcbcpjcmihooaaGreatQ20
import Derived.Test.YtfcbcpjcmihooaaGreatP23
/- What holds of a store from the beginning on stays, whatever is called. -/
namespace Go.Proofs.YtfcbcpjcmihooaaGreat
open Go.RowKit
set_option linter.unusedVariables false
set_option maxRecDepth 4000
end Go.Proofs.YtfcbcpjcmihooaaGreat

/- Does and Same as the statements call them; both stores made new; Get of both. -/
namespace Go.Proofs.YtfcbcpjcmihooaaGreat
open Go.RowKit
set_option linter.unusedVariables false
set_option maxRecDepth 4000
theorem truth_of (b : Bool) (w : World) : Calls Tryz.prog 38 #[.bool b] w fun e w' => e = .returned (.int .i64 (trB b)) ∧ w' = w := by
  cases b
  all_goals (
    go_enter Tryz.func38, Tryz.ntmps38
    go_wp2
    go_ret
    exact ⟨rfl, rfl⟩)
section
variable {B : Nat} {W w : World} {ps rs : Nat} {st : St} {m : Nat}
theorem Does_of (h : Bo B W ps rs st m w) (ho : st.o = 0 ∨ st.o = 1) (hr : RightS st.s) (o : Od) (A : Option Addr) (N C : Nat) (hl : PtsIn (fun x => x < B) w A N o.l) (hk : Fits8 o.k) (hm : m + N ≤ 10000) :
    Calls Tryz.prog 13 #[.pointer (some ⟨ps, 0, none⟩), .pointer (some ⟨rs, 0, none⟩), .agg #[.int .u8 o.k, .slice A N C, .int .i64 o.z]] w fun e w' => e = .returned (.int .i64 1) ∧ Bo B W ps rs (doM st o) (m + N) w' := by
  have hb0 : Below w.heap.size w (w.alloc (.cells #[.int .u8 o.k, .slice A N C, .int .i64 o.z] 34)) := (Below.refl _ _).alloc (Nat.le_refl _) _
  obtain ⟨q, hq⟩ : ∃ q, q = w.heap.size := ⟨_, rfl⟩
  have bs : Blk (w.alloc (.cells #[.int .u8 o.k, .slice A N C, .int .i64 o.z] 34)) q [.int .u8 o.k, .slice A N C, .int .i64 o.z] 34 := Blk.new' hq.symm rfl
  have HD : Hid (Calls Tryz.prog 48 #[.pointer (some ⟨ps, 0, none⟩), .pointer (some ⟨rs, 0, none⟩), .agg #[.int .u8 o.k, .slice A N C, .int .i64 o.z]] (w.alloc (.cells #[.int .u8 o.k, .slice A N C, .int .i64 o.z] 34)) fun e w' => e = .returned (.bool true) ∧ Bo B W ps rs (doM st o) (m + N) w') := does_of (h.under hb0) ho hr o A N C (hl.below hb0) hk hm
  have HT : Hid (∀ V, Calls Tryz.prog 38 #[.bool true] V fun e w' => e = .returned (.int .i64 1) ∧ w' = V) := fun V => truth_of true V
  clear h hl hb0
  go_enter Tryz.func13, Tryz.ntmps13
  go_wp2_with fail
  rw [← hq]
  generalize World.alloc w _ = V at bs HD ⊢
  have y0 : V.cell? ⟨q, 0, none⟩ = some (.int .u8 o.k) := bs.cell 0
  have y1 : V.cell? ⟨q, 1, none⟩ = some (.slice A N C) := bs.cell 1
  have y2 : V.cell? ⟨q, 2, none⟩ = some (.int .i64 o.z) := bs.cell 2
  clear hq bs
  go_wp2_with (first
    | (go_at_call 48; refine HD.out.mono ?_; rintro e w2 ⟨rfl, h2⟩)
    | (go_at_call 38; refine (HT.out _).mono ?_; rintro e w3 ⟨rfl, rfl⟩))
  go_ret
  exact ⟨rfl, h2⟩
theorem Same_of (h : Bo B W ps rs st m w) (hm : m ≤ 10000) :
    Calls Tryz.prog 14 #[.pointer (some ⟨ps, 0, none⟩), .pointer (some ⟨rs, 0, none⟩)] w fun e w' => e = .returned (.int .i64 1) ∧ Bo B W ps rs st m w' := by
  have HD : Hid (Calls Tryz.prog 49 #[.pointer (some ⟨ps, 0, none⟩), .pointer (some ⟨rs, 0, none⟩)] w fun e w' => e = .returned (.bool true) ∧ Bo B W ps rs st m w') := (same_bo h hm).mono (fun e w' hh => ⟨hh.1, h.under hh.2⟩)
  have HT : Hid (∀ V, Calls Tryz.prog 38 #[.bool true] V fun e w' => e = .returned (.int .i64 1) ∧ w' = V) := fun V => truth_of true V
  clear h
  go_enter Tryz.func14, Tryz.ntmps14
  go_wp2_with (first
    | (go_at_call 49; refine HD.out.mono ?_; rintro e w2 ⟨rfl, h2⟩)
    | (go_at_call 38; refine (HT.out _).mono ?_; rintro e w3 ⟨rfl, rfl⟩))
  go_ret
  exact ⟨rfl, h2⟩
end
end Go.Proofs.YtfcbcpjcmihooaaGreat

/- Small facts that StoreDoes and the laws behind it take. -/
namespace Go.Proofs.YtfcbcpjcmihooaaGreat
open Go.RowKit
set_option linter.unusedVariables false
set_option maxRecDepth 4000
theorem put_sh : ∀ (f : Nat) (st : St) (l : List Pt), (putF f st l).2.s = st.s
  | 0, st, l => by unfold putF; rfl
  | f + 1, st, [] => by unfold putF; rfl
  | f + 1, st, p :: l => by
    rw [putFstep]
    split
    · rw [put_sh f]; rfl
    · rfl
theorem do_sh (st : St) (o : Od) : (doM st o).s = st.s := by
  unfold doM
  split
  · rfl
  · split
    · rfl
    · split
      · unfold clearM; split <;> rfl
      · unfold putM
        split
        · exact put_sh _ _ _
        · rfl
section
variable {B : Nat} {W w : World} {ps rs : Nat} {st : St} {m m' : Nat}
theorem Bo.bel (h : Bo B W ps rs st m w) : Below B W w := by
  obtain ⟨D, k, D', M', k', h1, h2, h3, h4, h5, h6, h7, h8, h9⟩ := h
  exact h8
theorem Bo.mono (h : Bo B W ps rs st m w) (hm : m ≤ m') : Bo B W ps rs st m' w := by
  obtain ⟨D, k, D', M', k', h1, h2, h3, h4, h5, h6, h7, h8, h9⟩ := h
  exact ⟨D, k, D', M', k', h1, h2, h3.mono hm, h4, h5, h6, h7, h8, by omega⟩
end
end Go.Proofs.YtfcbcpjcmihooaaGreat
