/- What one call of SameBytes, SameBlocks, SameZones, LentBytes, Lent does. -/
import Derived.Test.YteokhkoaieibmaaZDev
import Derived.BigQuiet
namespace Go.Proofs.Yteokhkoaieibmaa
open Go.RowKit Go.Shelf
set_option linter.unusedVariables false
set_option maxRecDepth 4000

/-- Bytes of the call's own. -/
def LentE (w : World) (D : List Int) (e : Ending) (w' : World) : Prop :=
  ∃ h, e = .returned h ∧ BkAt (fun k => w.heap.size ≤ k) w' h D ∧ Below w.heap.size w w'
theorem lent_end {w w' : World} {a a' : Option Addr} {n c' : Nat} {D : List Int} (hb : BIn w a n D) (hn : n ≤ 1000000) (ow : w'.ownsRow w.heap.size 5 1 (.slice a' n c') n (u8s D)) (bl : Below w.heap.size w w') : LentE w D (.returned (.slice a' n c')) w' := by
  refine ⟨_, rfl, ⟨?_, fun k hk => (ow.lt k hk).1, hb.2.2.1, by rw [hb.1]; exact hn⟩, bl⟩
  rw [hb.1]
  exact own_zero ow
theorem lentBytes_of (a : Option Addr) (n c : Nat) (D : List Int) (w : World) (hb : BIn w a n D) (hnil : a = none → n = 0 ∧ c = 0) (hn : n ≤ 1000000) :
    Calls Try.prog 15 #[.slice a n c] w (LentE w D) := by
  have hl := hb.1
  have H : Hid (BIn w a n D ∧ (a = none → n = 0 ∧ c = 0) ∧ n ≤ 1000000 ∧ D.length = n) := ⟨hb, hnil, hn, hl⟩
  clear hb hnil hn hl
  go_enter Try.func15, Try.ntmps15
  go_wp2_with (at_builtin; refine wpList_append_bin rfl (.tmp 4) (.tmp 5) rfl w.heap.size none 0 0 [] rfl (World.ownsRow_nil _ _ _ _) a n c D rfl H.out.1 H.out.2.1 (by have := H.out.2.2.1; omega) (Nat.le_refl _) ?_; intro a' c' w' ow bl)
  go_ret
  exact lent_end H.out.1 H.out.2.2.1 (by simpa using ow) bl
theorem rLent_of (a : Option Addr) (n c : Nat) (D : List Int) (w : World) (hb : BIn w a n D) (hnil : a = none → n = 0 ∧ c = 0) (hn : n ≤ 1000000) :
    Calls Try.prog 76 #[.slice a n c] w (LentE w D) := by
  have hl := hb.1
  have H : Hid (BIn w a n D ∧ (a = none → n = 0 ∧ c = 0) ∧ n ≤ 1000000 ∧ D.length = n) := ⟨hb, hnil, hn, hl⟩
  clear hb hnil hn hl
  go_enter Try.func76, Try.ntmps76
  go_wp2_with (at_builtin; refine wpList_append_bin rfl (.tmp 4) (.tmp 5) rfl w.heap.size none 0 0 [] rfl (World.ownsRow_nil _ _ _ _) a n c D rfl H.out.1 H.out.2.1 (by have := H.out.2.2.1; omega) (Nat.le_refl _) ?_; intro a' c' w' ow bl)
  go_ret
  exact lent_end H.out.1 H.out.2.2.1 (by simpa using ow) bl

set_option maxHeartbeats 1000000 in
theorem sameBlocks_of (a : Option Addr) (n c : Nat) (b : Option Addr) (m d : Nat) (Ds : List (List Int)) (w : World) (hx : BsIn w a n Ds) (hy : BsIn w b m Ds) :
    Calls Try.prog 12 #[.slice a n c, .slice b m d] w fun e w' => e = .returned (.bool true) ∧ ∃ k, w' = w.drewN k := by
  have hnm : n = m := by rw [← hx.1, ← hy.1]
  subst hnm
  have hn : n ≤ 100000 := hx.2.1
  have H : Hid (BsIn w a n Ds ∧ BsIn w b n Ds) := ⟨hx, hy⟩
  clear hx hy
  go_enter Try.func12, Try.ntmps12
  go_wp2
  go_loopw [5] (fun i wr => ∃ (k d : Nat), k ≤ n ∧ i = .int .i64 k ∧ wr = w.drewN d)
    (fun i _ => n - (intOf i).toNat)
  case atStart => exact ⟨0, 0, by omega, rfl, rfl⟩
  case round =>
    obtain ⟨k, d, hk, rfl, rfl⟩ := hrel
    by_cases hlt : k < n
    · have hlt' : (k : Int) < n := by omega
      obtain ⟨b1, o1, rfl, hc1⟩ := H.out.1.2.2.resolve_left (by omega)
      obtain ⟨b2, o2, rfl, hc2⟩ := H.out.2.2.2.resolve_left (by omega)
      have hkl : k < Ds.length := by rw [H.out.1.1]; exact hlt
      obtain ⟨v1, c1, A1, L1, C1, rfl, s1, _⟩ := hc1 k Ds[k] (List.getElem?_eq_getElem hkl)
      obtain ⟨v2, c2, A2, L2, C2, rfl, s2, _⟩ := hc2 k Ds[k] (List.getElem?_eq_getElem hkl)
      have h1 := fun j => str_of (w.drewN j) A1 L1 C1 Ds[k] s1
      have h2 := fun j => str_of (w.drewN j) A2 L2 C2 Ds[k] s2
      obtain ⟨S, eS⟩ : ∃ S, S = strOfNums Ds[k] := ⟨_, rfl⟩
      simp only [← eS] at h1 h2
      clear hc1 hc2 eS s1 s2 hkl
      go_wp2
      go_quiet (fail)
      go_wp2
      go_roundw
      case rel => exact ⟨k + 1, _, by omega, by go_num, rfl⟩
      case measure => simp [intOf]; omega
    · have hge : (n : Int) ≤ k := by omega
      go_wp2
      go_ret
      exact ⟨rfl, d, rfl⟩

/-- Zones that are read. -/
def ZsIn (W : World) (a : Option Addr) (n : Nat) (zs : List Zn) : Prop :=
  zs.length = n ∧ n ≤ 1000 ∧ (n = 0 ∨ ∃ b off, a = some ⟨b, off, none⟩ ∧ ∀ (i : Nat) (z : Zn), zs[i]? = some z → ∃ A L C, W.cell? ⟨b, off + i * 2, none⟩ = some (.slice A L C) ∧ W.cell? ⟨b, off + i * 2 + 1, none⟩ = some (.int .i64 z.2) ∧ BsIn W A L z.1)
theorem ZsIn.below {w w' : World} {a : Option Addr} {n : Nat} {zs : List Zn} (h : ZsIn w a n zs) (hb : Below w.heap.size w w') : ZsIn w' a n zs := by
  obtain ⟨h1, h2, h3⟩ := h
  refine ⟨h1, h2, ?_⟩
  rcases h3 with h3 | ⟨b, off, ha, hc⟩
  · exact .inl h3
  · refine .inr ⟨b, off, ha, fun i z hi => ?_⟩
    obtain ⟨A, L, C, h4, h5, h6⟩ := hc i z hi
    exact ⟨A, L, C, by rw [hb.cell (old_block h4)]; exact h4, by rw [hb.cell (old_block h5)]; exact h5, h6.below hb⟩
def ShortZ (zs : List Zn) : Prop := ∀ z ∈ zs, Short z.1
theorem ZsAt.zsin {O : Nat → Prop} {W : World} {a : Option Addr} {n c : Nat} {zs : List Zn} (h : ZsAt O W (.slice a n c) zs) (hs : ShortZ zs) : ZsIn W a n zs := by
  obtain ⟨vs, h1, h2, h3, h4, h5, h6⟩ := h
  have hn : n = zs.length := (own_cap h1).2
  refine ⟨hn.symm, by omega, ?_⟩
  rcases h1.2 with ⟨hv, hz⟩ | ⟨g, cap, cur, hv, hb, hg, hc, hcm, hsz, htake⟩
  · exact .inl (by omega)
  · cases hv
    refine .inr ⟨g, 0, rfl, fun i z hi => ?_⟩
    have hlt := (List.getElem?_eq_some_iff.1 hi).1
    obtain ⟨u, hu⟩ : ∃ v, vs[i]? = some v := ⟨vs[i]'(by rw [h3]; exact hlt), by simp [h3, hlt]⟩
    have hr := h4 i u z hu hi
    obtain ⟨A, C, rfl⟩ := hr.slice
    obtain ⟨g1, g2⟩ := zcells_get vs zs i _ z hu hi
    have hl := zcells_length vs zs h3
    refine ⟨A, z.1.length, C, ?_, ?_, hr.bsin (hs z (List.mem_of_getElem? hi))⟩
    · rw [Nat.zero_add, Nat.mul_comm, h1.cellAt _ (by omega)]; exact g1
    · rw [Nat.zero_add, Nat.mul_comm, h1.cellAt _ (by omega)]; exact g2

theorem quiet_of {P : Program} {f : FuncId} {args : Array Value} {w : World} {n : Nat} {v : Value}
    (h : Calls P f args (w.drewN n) fun e w' => e = .returned v ∧ ∃ k, w' = (w.drewN n).drewN k) : Calls P f args (w.drewN n) fun e w'' => e = .returned v ∧ ∃ m, w'' = w.drewN m :=
  h.mono fun _ _ ⟨he, k, hm⟩ => ⟨he, n + k, by rw [hm, World.drewN_drewN]⟩
set_option maxHeartbeats 1000000 in
theorem sameZones_of (a : Option Addr) (n c : Nat) (b : Option Addr) (m d : Nat) (zs : List Zn) (w : World) (hx : ZsIn w a n zs) (hy : ZsIn w b m zs) :
    Calls Try.prog 26 #[.slice a n c, .slice b m d] w fun e w' => e = .returned (.bool true) ∧ ∃ k, w' = w.drewN k := by
  have hnm : n = m := by rw [← hx.1, ← hy.1]
  subst hnm
  have hn : n ≤ 1000 := hx.2.1
  have H : Hid (ZsIn w a n zs ∧ ZsIn w b n zs) := ⟨hx, hy⟩
  clear hx hy
  go_enter Try.func26, Try.ntmps26
  go_wp2
  go_loopw [5] (fun i wr => ∃ (k d : Nat), k ≤ n ∧ i = .int .i64 k ∧ wr = w.drewN d)
    (fun i _ => n - (intOf i).toNat)
  case atStart => exact ⟨0, 0, by omega, rfl, rfl⟩
  case round =>
    obtain ⟨k, d, hk, rfl, rfl⟩ := hrel
    by_cases hlt : k < n
    · have hlt' : (k : Int) < n := by omega
      obtain ⟨b1, o1, rfl, hc1⟩ := H.out.1.2.2.resolve_left (by omega)
      obtain ⟨b2, o2, rfl, hc2⟩ := H.out.2.2.2.resolve_left (by omega)
      have hkl : k < zs.length := by rw [H.out.1.1]; exact hlt
      obtain ⟨A1, L1, C1, c1, e1, s1⟩ := hc1 k zs[k] (List.getElem?_eq_getElem hkl)
      obtain ⟨A2, L2, C2, c2, e2, s2⟩ := hc2 k zs[k] (List.getElem?_eq_getElem hkl)
      have HC : Hid (∀ V, Below w.heap.size w V → Calls Try.prog 12 #[.slice A1 L1 C1, .slice A2 L2 C2] V fun e w' => e = .returned (.bool true) ∧ ∃ k, w' = V.drewN k) := fun V hV => sameBlocks_of A1 L1 C1 A2 L2 C2 zs[k].1 V (s1.below hV) (s2.below hV)
      obtain ⟨D, eD⟩ : ∃ D, D = zs[k].2 := ⟨_, rfl⟩
      rw [← eD] at e1 e2
      clear hc1 hc2 eD s1 s2 hkl
      go_wp2
      go_region_held3 (fun w' => w'.cell? ⟨b1, o1 + k * 2, none⟩ = some (.slice A1 L1 C1) ∧ w'.cell? ⟨b2, o2 + k * 2, none⟩ = some (.slice A2 L2 C2)) (exact ⟨c1, c2⟩) ((go_at_call 12; refine (HC.out _ (by exact ⟨rfl, rfl, rfl, Nat.le_refl _, fun _ _ => rfl⟩)).mono ?_; rintro e w' ⟨rfl, k2, rfl⟩))
      go_wp2
      go_quiet (fail)
      go_wp2
      go_roundw
      case rel => exact ⟨k + 1, _, by omega, by go_num, rfl⟩
      case measure => simp [intOf]; omega
    · have hge : (n : Int) ≤ k := by omega
      go_wp2
      go_ret
      exact ⟨rfl, d, rfl⟩
end Go.Proofs.Yteokhkoaieibmaa
