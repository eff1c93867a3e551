/- What one call of the document's At, Reset, Flush does. -/
import Derived.Test.YtlkpglppkpalgaaZOps
namespace Go.Proofs.Ytlkpglppkpalgaa
open Go.RowKit Go.Shelf
set_option linter.unusedVariables false
set_option maxRecDepth 4000
section
variable {O : Nat → Prop} {W : World} {p : Nat} {s : Sh} {zs : List Zn}
theorem out_cases {zs : List Zn} {zn : Int} (h : ¬ (0 ≤ zn ∧ zn ≤ (zs.length : Int) - 1)) : zn < 0 ∨ (¬ zn < 0 ∧ (zs.length : Int) ≤ zn) := by omega
theorem rAt_of (zn : Int) (hd : Dv 71 O W p s zs) :
    Calls Try.prog 16 #[.pointer (some ⟨p, 0, none⟩), .int .i64 zn] W fun e w' => e = .returned (.tuple #[.int .i64 ((atZ zs zn).1.length : Nat), .int .i64 (atZ zs zn).2]) ∧ Below W.heap.size W w' := by
  obtain ⟨g, c, vs, hv⟩ := hd
  have c4 := hv.pcell.2.2.2.2
  rcases zone_cases zs zn with ⟨i, z, rfl, hz, hi, hb⟩ | ⟨hn, hb⟩
  · rw [atZ_in hz]
    obtain ⟨a, cc, hu, hr, z0, z1⟩ := hv.at hz
    have hi' : (i : Int) < zs.length := by omega
    clear hv hr hz hu hb
    go_enter Try.func16, Try.ntmps16
    go_wp2
    go_quiet (fail)
    go_wp2
    go_ret2
    exact ⟨rfl, below_drewN _ _⟩
  · rw [atZ_out hn]
    rcases out_cases hn with h | ⟨h1, h2⟩
    · clear hb hn hv
      go_enter Try.func16, Try.ntmps16
      go_wp2
      go_ret2
      exact ⟨rfl, Below.refl _ _⟩
    · clear hb hn hv
      go_enter Try.func16, Try.ntmps16
      go_wp2
      go_ret2
      exact ⟨rfl, Below.refl _ _⟩
theorem rReset_of (zn : Int) (hd : Dv 71 O W p s zs) :
    Calls Try.prog 35 #[.pointer (some ⟨p, 0, none⟩), .int .i64 zn] W fun e w' => e = .returned (.int .i64 (resetE zs zn)) ∧ Step 71 O W p s (resetZ zs zn) w' := by
  obtain ⟨g, c, vs, hv⟩ := hd
  have c4 := hv.pcell.2.2.2.2
  rcases zone_cases zs zn with ⟨i, z, rfl, hz, hi, hb⟩ | ⟨hn, hb⟩
  · rw [resetZ_in, resetE, if_pos (by omega)]
    obtain ⟨a, cc, hu, hr, z0, z1⟩ := hv.at hz
    have f0 := hv.free (i * 2)
    have f1 := hv.free (i * 2 + 1)
    have HR : Hid (Step 71 O W p s (zs.set i ([], 0)) ((W.setCell ⟨g, i * 2, none⟩ (.slice none 0 0)).setCell ⟨g, i * 2 + 1, none⟩ (.int .i64 0))) := hv.reset hz
    have hi' : (i : Int) < zs.length := by omega
    clear hv hr hz hu hb
    go_enter Try.func35, Try.ntmps35
    go_wp2
    go_ret
    exact ⟨rfl, HR.out⟩
  · rw [resetZ_out hn, resetE, if_neg hn]
    have HD : Hid (Step 71 O W p s zs W) := step_of ⟨g, c, vs, hv⟩ (Out.refl _ _)
    rcases out_cases hn with h | ⟨h1, h2⟩
    · clear hb hn hv
      go_enter Try.func35, Try.ntmps35
      go_wp2
      go_ret
      exact ⟨rfl, HD.out⟩
    · clear hb hn hv
      go_enter Try.func35, Try.ntmps35
      go_wp2
      go_ret
      exact ⟨rfl, HD.out⟩

set_option maxHeartbeats 2000000 in
theorem rFlush_of (hd : Dv 71 O W p s zs) :
    Calls Try.prog 34 #[.pointer (some ⟨p, 0, none⟩)] W fun e w' => (∃ v, e = .returned v) ∧ Step 71 O W p s (flushZ zs) w' := by
  obtain ⟨g, c, vs, hv⟩ := hd
  have hl := hv.small
  have HV : Hid (DvV 71 O W p s zs g c vs) := hv
  clear hv
  generalize hN : zs.length = N at *
  go_enter Try.func34, Try.ntmps34
  go_wp2
  go_loopw [2] (fun x wr => ∃ i : Nat, x = .int .i64 i ∧ i ≤ N ∧ DvV 71 O wr p s (upTo (fun _ z => fl z) zs i) g c vs ∧ Out O W wr) (fun x wr => N - (intOf x).toNat)
  case atStart => exact ⟨0, rfl, Nat.zero_le _, by rw [upTo_zero]; exact HV.out, Out.refl _ _⟩
  case round =>
    obtain ⟨i, rfl, hi, hv, ho⟩ := hrel
    have c4' := hv.pcell.2.2.2.2
    rw [upTo_length, hN] at c4'
    rcases Nat.lt_or_ge i N with hlt | hge
    · obtain ⟨z, hz⟩ : ∃ z, zs[i]? = some z := ⟨zs[i]'(by omega), by simp⟩
      obtain ⟨a, cc, hu, hr, z0, z1⟩ := hv.at ((upTo_get _ _ _).trans hz)
      have f1 := hv.free (i * 2 + 1)
      have HS : Hid (DvV 71 O (wr.setCell ⟨g, i * 2 + 1, none⟩ (.int .i64 (z.1.length : Nat))) p s (upTo (fun _ z => fl z) zs (i + 1)) g c vs ∧ Out O W (wr.setCell ⟨g, i * 2 + 1, none⟩ (.int .i64 (z.1.length : Nat)))) := by
        refine ⟨?_, ho.setCell (p := ⟨g, i * 2 + 1, none⟩) (.inl hv.og) _⟩
        have := hv.setD ((upTo_get _ _ _).trans hz) (z.1.length : Nat)
        rw [← upTo_next _ _ hz]
        exact this
      have hi' : (i : Int) < (N : Int) := by omega
      have hw : IntKind.i64.wrap ((i : Int) + 1) = (i : Int) + 1 := by rw [IntKind.wrap_i64]; omega
      have k4 := HS.out.1.pcell.2.2.2.2
      rw [upTo_length, hN] at k4
      have k0 : (wr.setCell ⟨g, i * 2 + 1, none⟩ (.int .i64 (z.1.length : Nat))).cell? ⟨g, i * 2, none⟩ = some (.slice a z.1.length cc) := by
        rw [World.cell?_setCell_other _ _ _ _ (by intro e; injection e with _ e; omega)]; exact z0
      clear hv ho hr hu
      go_wp2
      go_region_held3 (fun w' => w'.cell? ⟨p, 4, none⟩ = some (.slice (some ⟨g, 0, none⟩) N c) ∧ w'.cell? ⟨g, i * 2, none⟩ = some (.slice a z.1.length cc)) (first | exact ⟨c4', z0⟩ | exact ⟨k4, k0⟩) (fail)
      clear z0 z1 c4' k4 k0
      generalize World.setCell _ _ _ = V at HS ⊢
      go_wp2
      go_roundw
      case rel => exact ⟨i + 1, by simp, by omega, HS.out.1.under (Below.refl _ _).drew, HS.out.2.drew⟩
      case measure => simp [intOf]; omega
    · obtain rfl : i = N := by omega
      have HS : Hid (DvV 71 O wr p s (upTo (fun _ z => fl z) zs i) g c vs ∧ Out O W wr) := ⟨hv, ho⟩
      clear hv ho
      go_wp2
      go_end0
      refine ⟨⟨_, rfl⟩, step_of ⟨g, c, vs, ?_⟩ HS.out.2⟩
      have := HS.out.1
      rw [upTo_all _ _ (by omega)] at this
      exact this
end
end Go.Proofs.Ytlkpglppkpalgaa
