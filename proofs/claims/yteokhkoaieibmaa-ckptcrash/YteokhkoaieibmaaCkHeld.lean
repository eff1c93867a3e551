/- What one call of ckpt's held does. -/
import Derived.Test.YteokhkoaieibmaaCkDec
import Derived.Test.YteokhkoaieibmaaZRd
import Derived.Test.YteokhkoaieibmaaZNew
namespace Go.Proofs.Yteokhkoaieibmaa
open Go.RowKit Go.Shelf
set_option linter.unusedVariables false
set_option maxRecDepth 4000

theorem kdv_under {T : TypeId} {O : Nat → Prop} {W W' : World} {p : Nat} {s : Sh} {zs : List Zn} (h : Dv T O W p s zs) (hb : Below W.heap.size W W') : Dv T O W' p s zs := by
  obtain ⟨g, c, vs, hv⟩ := h; exact ⟨g, c, vs, hv.under hb⟩
theorem rd_at {zs : List Zn} {i j : Nat} {z : Zn} {D : List Int} (hz : zs[i]? = some z) (hD : z.1[j]? = some D) : rdE zs i j = 0 ∧ rdB zs i j = D := by
  have hi := (List.getElem?_eq_some_iff.1 hz).1
  have hj := (List.getElem?_eq_some_iff.1 hD).1
  have h1 : zoneIn zs i := ⟨by omega, by omega⟩
  have h2 : blockIn zs i j := ⟨by omega, by rw [atZ_in hz]; omega⟩
  unfold rdE rdB
  rw [if_pos h1, if_pos h2, if_pos h1, if_pos h2, atZ_in hz]
  exact ⟨rfl, by simp [List.getD, hD]⟩
def Held (W : World) (bs : List (List Int)) (e : Ending) (w' : World) : Prop := ∃ v, e = .returned v ∧ RowAt (fun j => W.heap.size ≤ j) w' v bs ∧ Below W.heap.size W w'
set_option maxHeartbeats 2000000 in
theorem kheld_of (i : Nat) {O : Nat → Prop} {W : World} {p : Nat} {s : Sh} {zs : List Zn} (hd : Dv 104 O W p s zs) (hw : Wf s zs) {z : Zn} (hz : zs[i]? = some z) :
    Calls Try.prog 49 #[.pointer (some ⟨p, 0, none⟩), .int .i64 i] W (Held W z.1) := by
  obtain ⟨i0, hi0, hz0, hz1, hz2⟩ := info_parts Try.zero_bytes
  obtain ⟨q, hq⟩ : ∃ q, q = W.heap.size := ⟨_, rfl⟩
  obtain ⟨m, hm⟩ : ∃ m, m = z.1.length := ⟨_, rfl⟩
  have hzl := (hw.zone z (List.mem_of_getElem? hz)).1
  have hzr := hw.right.2.2.2.1
  have hm4 : m ≤ 4096 := by omega
  have hAt := at_of (i : Int) hd
  rw [atZ_in hz, ← hm] at hAt
  have HA : Hid (Calls Try.prog 74 #[.pointer (some ⟨p, 0, none⟩), .int .i64 (i : Int)] W fun e w' => e = .returned (.tuple #[.int .i64 (m : Nat), .int .i64 z.2]) ∧ Below W.heap.size W w') := hAt
  have H : Hid (Dv 104 O W p s zs ∧ Wf s zs ∧ zs[i]? = some z ∧ q = W.heap.size ∧ m = z.1.length ∧ Try.prog.info? 39 = some i0 ∧ i0.zero = some (.slice none 0 0) ∧ i0.size = 1 ∧ i0.bytes = 24) := ⟨hd, hw, hz, hq, hm, hi0, hz0, hz1, hz2⟩
  clear hd hw hz hm hi0 hz0 hz1 hz2 hzl hzr hAt
  go_enter Try.func49, Try.ntmps49
  go_upto_region 3 with (first
    | (go_at_call 74; refine HA.out.mono ?_; rintro e W1 ⟨rfl, b1⟩)
    | (at_make; refine wpList_make_own W1 rfl _ (.tmp 17) 28 rfl q 39 i0 (.slice none 0 0) 1 Try.underlying28 H.out.2.2.2.2.2.1 H.out.2.2.2.2.2.2.1 H.out.2.2.2.2.2.2.2.1 .i64 .i64 _ m rfl rfl (by omega) (by rw [H.out.2.2.2.2.2.2.2.2]; omega) (by unfold maxLen; omega) (by rw [H.out.2.2.2.1]; exact b1.size) ?_; intro W2 ow2 gr2))
  have H2 : Hid (RowAt (fun j => q ≤ j) W2 (.slice (some ⟨W1.heap.size, 0, none⟩) 0 m) (z.1.take 0) ∧ Below q W W2) := by
    refine ⟨⟨[], by simpa using own_zero ow2, fun r e => (ow2.lt r e).1, BsAt.nil _ _, by simp⟩, ?_⟩
    have b2 : Below W1.heap.size W1 W2 := (Below.refl _ _).grown gr2 (Nat.le_refl _) (fun g hg => by cases hg)
    have hs := b1.size
    rw [H.out.2.2.2.1]
    exact b1.trans (b2.mono hs)
  clear b1 ow2 gr2 hq
  go_wp2
  go_loopw [7, 20] (fun v x wr => ∃ (j : Nat) (av : Option Addr) (nv cv : Nat), j ≤ m ∧ x = .int .i64 j ∧ v = .slice av nv cv ∧ RowAt (fun k => q ≤ k) wr (.slice av nv cv) (z.1.take j) ∧ Below q W wr) (fun _ x _ => m - (intOf x).toNat)
  case atStart => exact ⟨0, _, _, _, Nat.zero_le _, rfl, rfl, H2.out.1, H2.out.2⟩
  case round =>
    obtain ⟨j, av, nv, cv, hj, rfl, rfl, row, bl⟩ := hrel
    have hbl : Below W.heap.size W wr := by rw [← H.out.2.2.2.1]; exact bl
    rcases Nat.lt_or_ge j m with hlt | hge
    · obtain ⟨D, hD⟩ : ∃ D, z.1[j]? = some D := ⟨z.1[j]'(by have := H.out.2.2.2.2.1; omega), by simp⟩
      obtain ⟨hrE, hrB⟩ := rd_at H.out.2.2.1 hD
      have hR := read_of (i : Int) (j : Int) (kdv_under H.out.1 hbl) H.out.2.1
      have hj' : (j : Int) < m := by omega
      have hwj : IntKind.i64.wrap ((j : Int) + 1) = (j : Int) + 1 := by rw [IntKind.wrap_i64]; omega
      have htl : (z.1.take j).length = j := by rw [List.length_take]; have := H.out.2.2.2.2.1; omega
      have HR : Hid (Calls Try.prog 75 #[.pointer (some ⟨p, 0, none⟩), .agg #[.int .i64 (i : Int), .int .i64 (j : Int)]] wr fun e X => ∃ ax nx cx, e = .returned (.tuple #[.slice ax nx cx, .int .u16 0]) ∧ ∃ a9 c9 w9, (Builtin.append_ #[28, 28] 28 #[.slice av nv cv, .slice (some ⟨X.heap.size, 0, none⟩) 1 1]).run Try.prog (X.alloc (.cells #[.slice ax nx cx] 39)) = .ok (.slice a9 (j + 1) c9) w9 ∧ RowAt (fun k => q ≤ k) w9 (.slice a9 (j + 1) c9) (z.1.take (j + 1)) ∧ Below q W w9) := by
        refine hR.mono ?_
        rintro e X ⟨h, rfl, hbk, hb⟩
        rw [hrE]
        rw [hrB] at hbk
        obtain ⟨ax, cx, rfl⟩ := own_slice hbk.1
        have hqw : q ≤ wr.heap.size := by rw [H.out.2.2.2.1]; exact hbl.size
        have row' := row.out (below_out Non hb) (fun _ _ => id) (fun _ _ _ _ => id)
        obtain ⟨a9, c9, w9, e9, r9, g9, _⟩ := app_row row' (hbk.mono (O' := fun k => q ≤ k) (fun c hc _ => Nat.le_trans hqw hc)) rfl (by rw [htl]; omega) (fun k hk => Nat.le_trans hqw (Nat.le_trans hb.size hk))
        rw [htl] at e9 r9
        have bX : Below q W X := bl.trans (hb.mono hqw)
        refine ⟨ax, _, cx, rfl, a9, c9, w9, e9, by rw [take_snoc hD]; exact r9, ?_⟩
        obtain ⟨vs, r1, r2, _⟩ := row'
        exact (bX.alloc (by have := hb.size; omega) _).grown g9 (by simp; have := hb.size; omega) (fun k hk => r2 k hk)
      clear row bl hbl hR hrE hrB hD htl
      go_wp2_with (first
        | (go_at_call 75; refine HR.out.mono ?_; rintro e X ⟨ax, nx, cx, rfl, a9, c9, w9, e9, r9, b9⟩)
        | (at_builtin; refine wpList_append_run rfl (.tmp 31) (.tmp 33) 28 28 rfl _ _ rfl rfl _ _ e9 ?_))
      have H9 : Hid (RowAt (fun k => q ≤ k) w9 (.slice a9 (j + 1) c9) (z.1.take (j + 1)) ∧ Below q W w9) := ⟨r9, b9⟩
      clear e9 r9 b9
      go_roundw
      case rel => exact ⟨j + 1, a9, j + 1, c9, by omega, by simp, by simp, H9.out.1, H9.out.2⟩
      case measure => simp [intOf]; omega
    · obtain rfl : j = m := by omega
      have htk : z.1.take j = z.1 := List.take_of_length_le (by rw [H.out.2.2.2.2.1]; exact Nat.le_refl _)
      rw [htk] at row
      have HF : Hid (RowAt (fun k => W.heap.size ≤ k) wr (.slice av nv cv) z.1 ∧ Below W.heap.size W wr) := ⟨by rw [← H.out.2.2.2.1]; exact row, hbl⟩
      clear row bl hbl htk
      go_wp2
      go_ret
      exact ⟨_, rfl, HF.out.1, HF.out.2⟩
end Go.Proofs.Yteokhkoaieibmaa
