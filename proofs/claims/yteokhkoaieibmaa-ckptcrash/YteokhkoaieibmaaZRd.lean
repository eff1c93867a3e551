/- What one call of Read does, the program's and the document's. -/
import Derived.Test.YteokhkoaieibmaaZApp
namespace Go.Proofs.Yteokhkoaieibmaa
open Go.RowKit Go.Shelf
set_option linter.unusedVariables false
set_option maxRecDepth 4000

theorem Wf.short {s : Sh} {zs : List Zn} (h : Wf s zs) : ShortZ zs := by
  intro z hz D hD
  have := (h.zone z hz).2.2.2 D hD
  have := power_bounds h.right.2.2.2.2.1
  omega
def zoneIn (zs : List Zn) (zn : Int) : Prop := 0 ≤ zn ∧ zn ≤ (zs.length : Int) - 1
instance (zs : List Zn) (zn : Int) : Decidable (zoneIn zs zn) := by unfold zoneIn; infer_instance
def blockIn (zs : List Zn) (zn bn : Int) : Prop := 0 ≤ bn ∧ bn ≤ ((atZ zs zn).1.length : Int) - 1
instance (zs : List Zn) (zn bn : Int) : Decidable (blockIn zs zn bn) := by unfold blockIn; infer_instance
def rdE (zs : List Zn) (zn bn : Int) : Int := if zoneIn zs zn then (if blockIn zs zn bn then 0 else 102) else 100
def rdB (zs : List Zn) (zn bn : Int) : List Int := if zoneIn zs zn then (if blockIn zs zn bn then (atZ zs zn).1.getD bn.toNat [] else []) else []
def ReadE (k : IntKind) (W : World) (zs : List Zn) (zn bn : Int) (e : Ending) (w' : World) : Prop :=
  ∃ h, e = .returned (.tuple #[h, .int k (rdE zs zn bn)]) ∧ BkAt (fun x => W.heap.size ≤ x) w' h (rdB zs zn bn) ∧ Below W.heap.size W w'
theorem BkAt.nil (O : Nat → Prop) (W : World) : BkAt O W (.slice none 0 0) [] := ⟨World.ownsRow_nil _ _ _ _, (fun c h => by cases h), by simp, by simp⟩

section
variable {O : Nat → Prop} {W : World} {p : Nat} {s : Sh} {zs : List Zn}
theorem read_no {k : IntKind} {zn bn : Int} {W1 : World} (h : ¬ zoneIn zs zn) (hb : Below W.heap.size W W1) : ReadE k W zs zn bn (.returned (.tuple #[.slice none 0 0, .int k 100])) W1 := by
  unfold ReadE rdE rdB; rw [if_neg h, if_neg h]; exact ⟨_, rfl, BkAt.nil _ _, hb⟩
theorem read_none {k : IntKind} {zn bn : Int} {W1 : World} (h : zoneIn zs zn) (h2 : ¬ blockIn zs zn bn) (hb : Below W.heap.size W W1) : ReadE k W zs zn bn (.returned (.tuple #[.slice none 0 0, .int k 102])) W1 := by
  unfold ReadE rdE rdB; rw [if_pos h, if_neg h2, if_pos h, if_neg h2]; exact ⟨_, rfl, BkAt.nil _ _, hb⟩
theorem read_ok {k : IntKind} {i j : Nat} {z : Zn} {D : List Int} {v : Value} {W1 : World} (hz : zs[i]? = some z) (hD : z.1[j]? = some D) (hk : BkAt (fun x => W.heap.size ≤ x) W1 v D) (hb : Below W.heap.size W W1) : ReadE k W zs i j (.returned (.tuple #[v, .int k 0])) W1 := by
  have hi := (List.getElem?_eq_some_iff.1 hz).1
  have hj := (List.getElem?_eq_some_iff.1 hD).1
  have h1 : zoneIn zs i := ⟨by omega, by omega⟩
  have h2 : blockIn zs i j := ⟨by omega, by rw [atZ_in hz]; omega⟩
  unfold ReadE rdE rdB; rw [if_pos h1, if_pos h2, if_pos h1, if_pos h2, atZ_in hz]
  exact ⟨v, rfl, by simpa [List.getD, hD] using hk, hb⟩
/-- A block's header, where it lies. -/
theorem DvV.block {T : TypeId} {g c : Nat} {vs : List Value} {i j : Nat} {z : Zn} {D : List Int} {ua : Option Addr} {uc : Nat} (hv : DvV T O W p s zs g c vs) (hw : Wf s zs) (hz : zs[i]? = some z) (hu : vs[i]? = some (.slice ua z.1.length uc)) (hD : z.1[j]? = some D) :
    ∃ b off A L C, ua = some ⟨b, off, none⟩ ∧ W.cell? ⟨b, off + j, none⟩ = some (.slice A L C) ∧ BIn W A L D ∧ (A = none → L = 0 ∧ C = 0) ∧ L ≤ 100000 := by
  have hr := hv.rows i _ z hu hz
  have hbs := hr.bsin (hw.short z (List.mem_of_getElem? hz))
  obtain ⟨b, off, ha, hc⟩ := hbs.2.2.resolve_left (by have := (List.getElem?_eq_some_iff.1 hD).1; omega)
  obtain ⟨v, h1, A, L, C, rfl, h2, h3, h4, h5⟩ := hc j D hD
  exact ⟨b, off, A, L, C, ha, h1, h2, h3, h5⟩

set_option maxHeartbeats 4000000 in
theorem read_of (zn bn : Int) (hd : Dv 104 O W p s zs) (hw : Wf s zs) :
    Calls Try.prog 75 #[.pointer (some ⟨p, 0, none⟩), .agg #[.int .i64 zn, .int .i64 bn]] W (ReadE .u16 W zs zn bn) := by
  obtain ⟨q, hq⟩ : ∃ q, q = W.heap.size := ⟨_, rfl⟩
  have ab : Blk (W.alloc (.cells #[.int .i64 zn, .int .i64 bn] 67)) q [.int .i64 zn, .int .i64 bn] 67 := Blk.new' hq.symm rfl
  have abel : Below q W (W.alloc (.cells #[.int .i64 zn, .int .i64 bn] 67)) := (Below.refl _ _).alloc (by omega) _
  have hd1 : Dv 104 O (W.alloc (.cells #[.int .i64 zn, .int .i64 bn] 67)) p s zs := by
    obtain ⟨g, c, vs, hv⟩ := hd; exact ⟨g, c, vs, hv.under (by rw [← hq]; exact abel)⟩
  go_enter Try.func75, Try.ntmps75
  go_upto_region 1 with fail
  rw [← hq]
  generalize hW1 : World.alloc _ _ = W1 at *
  clear hW1
  have hh := has_of zn hd1
  have e0 : W1.cell? ⟨q, 0, none⟩ = some (.int .i64 zn) := ab.cell 0
  have e1 : W1.cell? ⟨q, 1, none⟩ = some (.int .i64 bn) := ab.cell 1
  have HA : Hid (Below W.heap.size W W1 ∧ Wf s zs) := ⟨by rw [← hq]; exact abel, hw⟩
  clear ab abel hd hw hq
  rcases zone_cases zs zn with ⟨i, z, rfl, hz, hi, hbb⟩ | ⟨hno, hbb⟩
  · rw [hbb] at hh
    have HH : Hid (Calls Try.prog 60 #[.pointer (some ⟨p, 0, none⟩), .int .i64 (i : Int)] W1 fun e w' => e = .returned (.bool true) ∧ w' = W1) := hh
    obtain ⟨g, cz, vs, hv⟩ := hd1
    obtain ⟨ua, uc, hu, hr, z0, z1⟩ := hv.at hz
    obtain ⟨p0, p1, p2, p3, c4⟩ := hv.pcell
    have hi' : (i : Int) < zs.length := by omega
    have hzi : zoneIn zs i := ⟨by omega, by omega⟩
    have hzl := (HA.out.2.zone z (List.mem_of_getElem? hz)).1
    have hzr := HA.out.2.right.2.2.2.1
    have hwl : IntKind.i64.wrap ((z.1.length : Int) - 1) = (z.1.length : Int) - 1 := by rw [IntKind.wrap_i64]; omega
    clear hh hbb
    by_cases hbi : 0 ≤ bn ∧ bn ≤ (z.1.length : Int) - 1
    · obtain ⟨j, rfl⟩ : ∃ j : Nat, bn = j := ⟨bn.toNat, by omega⟩
      have hj : j < z.1.length := by omega
      obtain ⟨D, hD⟩ : ∃ D, z.1[j]? = some D := ⟨z.1[j], by simp⟩
      obtain ⟨b, off, A, L, C, rfl, k1, k2, k3, k4⟩ := hv.block HA.out.2 hz hu hD
      have HI : Hid (∀ n, ∃ a' c' w', (Builtin.append_ #[39, 39] 39 #[.slice none 0 0, .slice A L C]).run Try.prog (W1.drewN n) = .ok (.slice a' L c') w' ∧ BkAt (fun k => (W1.drewN n).heap.size ≤ k) w' (.slice a' L c') D ∧ Below (W1.drewN n).heap.size (W1.drewN n) w') := fun n => run_lent (W := W1.drewN n) (k2.below (below_drewN _ _)) k3 (by omega)
      have HZ : Hid (zs[i]? = some z ∧ z.1[j]? = some D) := ⟨hz, hD⟩
      have hbt : (decide (0 ≤ (j : Int)) && decide ((j : Int) ≤ (z.1.length : Int) - 1)) = true := by simp; omega
      have hbt2 : decide ((j : Int) ≤ (z.1.length : Int) - 1) = true := by simp; omega
      have hj' : (j : Int) < z.1.length := by omega
      clear k2 k3 k4 hv hr hu hz hD hbi hzl hzr
      go_upto_region 3 with (go_at_call 60; refine HH.out.mono ?_; rintro e W1 ⟨rfl, rfl⟩)
      go_quiet (fail)
      obtain ⟨a', c', w', hrun, hbk, hbl⟩ := HI.out nq
      have HR : Hid ((Builtin.append_ #[39, 39] 39 #[.slice none 0 0, .slice A L C]).run Try.prog (W1.drewN nq) = .ok (.slice a' L c') w' ∧ BkAt (fun k => (W1.drewN nq).heap.size ≤ k) w' (.slice a' L c') D ∧ Below (W1.drewN nq).heap.size (W1.drewN nq) w') := ⟨hrun, hbk, hbl⟩
      clear hrun hbk hbl
      go_wp2_with (first
        | (go_at_call 62; refine (within_of _ _ _ _).mono ?_; rintro e w9 ⟨rfl, rfl⟩)
        | (at_builtin; refine wpList_append_run rfl (.const (.slice none 0 0)) (.tmp 32) 39 39 rfl _ _ rfl rfl _ _ HR.out.1 ?_))
      go_ret2
      have hsz := HA.out.1.size
      exact read_ok HZ.out.1 HZ.out.2 (HR.out.2.1.mono (fun x hx _ => Nat.le_trans hsz hx)) (HA.out.1.trans (((below_drewN W1 nq).trans HR.out.2.2).mono hsz))
    · have hbf : (decide (0 ≤ bn) && decide (bn ≤ (z.1.length : Int) - 1)) = false := by simp; omega
      have HN : Hid (zoneIn zs i ∧ ¬ blockIn zs i bn) := ⟨hzi, by unfold blockIn; rw [atZ_in hz]; exact hbi⟩
      clear hv hr hu hz hbi hzl hzr hzi
      go_upto_region 3 with (go_at_call 60; refine HH.out.mono ?_; rintro e W1 ⟨rfl, rfl⟩)
      go_quiet (fail)
      go_wp2_with (go_at_call 62; refine (within_of _ _ _ _).mono ?_; rintro e w9 ⟨rfl, rfl⟩)
      go_ret2
      exact read_none HN.out.1 HN.out.2 (HA.out.1.trans ((below_drewN W1 nq).mono HA.out.1.size))
  · rw [hbb] at hh
    have HH : Hid (Calls Try.prog 60 #[.pointer (some ⟨p, 0, none⟩), .int .i64 zn] W1 fun e w' => e = .returned (.bool false) ∧ w' = W1) := hh
    have HN : Hid (¬ zoneIn zs zn) := hno
    clear hh hbb hno hd1
    go_wp2_with (go_at_call 60; refine HH.out.mono ?_; rintro e W1 ⟨rfl, rfl⟩)
    go_ret2
    exact read_no HN.out HA.out.1
end
end Go.Proofs.Yteokhkoaieibmaa
