/- Texts of this seat, one behind the other: ZROpen. -/
import Derived.Test.YtfcbcpjcmihooaaGreatR3
import Derived.Test.YtfcbcpjcmihooaaGreatQ4
/- What one call of the document's own Open does. -/
namespace Go.Proofs.YtfcbcpjcmihooaaGreat
open Go.RowKit Go.Shelf
set_option linter.unusedVariables false
set_option maxRecDepth 4000

theorem zs_dev {T : TypeId} {O : Nat → Prop} {V : World} {s : Sh} {zs : List Zn} {a : Option Addr} {c : Nat} (hT : T ≠ 107 ∧ T ≠ 36 ∧ T ≠ 5) (h : ZsAt O V (.slice a zs.length c) zs) (h0 : 0 < zs.length) (hO : O V.heap.size) :
    Dv T O (V.alloc (.cells #[.int .i64 s.z, .int .i64 s.zb, .int .i64 s.b, .int .i64 s.r, .slice a zs.length c] T)) V.heap.size s zs := by
  have h' := h.under ((Below.refl V.heap.size V).alloc (Nat.le_refl _) (.cells #[.int .i64 s.z, .int .i64 s.zb, .int .i64 s.b, .int .i64 s.r, .slice a zs.length c] T))
  obtain ⟨vs, h1, h2, h3, h4, h5, h6⟩ := h'
  obtain ⟨g, rfl⟩ : ∃ g, a = some ⟨g, 0, none⟩ := by
    rcases h1.2 with ⟨hv, hz⟩ | ⟨g, cap, cur, hv, _⟩
    · omega
    · cases hv; exact ⟨g, rfl⟩
  exact ⟨g, c, vs, Blk.new' rfl rfl, h1, hO, h2 g rfl, h3, h4, h5, h6, hT⟩
set_option maxHeartbeats 4000000 in
theorem rOpen_of (s : Sh) (a : Option Addr) (n c : Nat) (zs : List Zn) (W : World) (hz : -9223372036854775808 ≤ s.z) (hl : ZsIn W a n zs) : Calls Tryz.prog 55 #[.agg (shL s).toArray, .slice a n c] W (Opened 142 W s zs) := by
  obtain ⟨q, hq⟩ : ∃ q, q = W.heap.size := ⟨_, rfl⟩
  have hb : Blk (W.alloc (.cells #[.int .i64 s.z, .int .i64 s.zb, .int .i64 s.b, .int .i64 s.r] 23)) q (shL s) 23 := Blk.new' hq.symm rfl
  have hbel : Below W.heap.size W (W.alloc (.cells #[.int .i64 s.z, .int .i64 s.zb, .int .i64 s.b, .int .i64 s.r] 23)) := (Below.refl _ _).alloc (Nat.le_refl _) _
  simp only [shL]
  go_enter Tryz.func55, Tryz.ntmps55
  go_upto_region 1 with fail
  rw [← hq]
  generalize hW1 : World.alloc _ _ = W1 at *
  have e0 : W1.cell? ⟨q, 0, none⟩ = some (.int .i64 s.z) := hb.cell 0
  have e1 : W1.cell? ⟨q, 1, none⟩ = some (.int .i64 s.zb) := hb.cell 1
  have e2 : W1.cell? ⟨q, 2, none⟩ = some (.int .i64 s.b) := hb.cell 2
  have e3 : W1.cell? ⟨q, 3, none⟩ = some (.int .i64 s.r) := hb.cell 3
  have hR := rRight_of s W1 hz
  simp only [shL] at hR
  have HA : Hid (Blk W1 q (shL s) 23 ∧ Below W.heap.size W W1 ∧ ZsIn W a n zs) := ⟨hb, hbel, hl⟩
  have hn := hl.2.1
  clear hb hbel hq hW1 hl
  by_cases hr : RightS s
  rotate_left
  · have hd : decide (RightS s) = false := by simp [hr]
    rw [hd] at hR
    have HR : Hid (Calls Tryz.prog 97 #[.agg #[.int .i64 s.z, .int .i64 s.zb, .int .i64 s.b, .int .i64 s.r]] W1 fun e w' => e = .returned (.bool false) ∧ Below W1.heap.size W1 w') := hR
    have HS : Hid (¬ RightS s) := hr
    clear hR hd hr
    go_wp2_with (go_at_call 97; refine HR.out.mono ?_; rintro e W2 ⟨rfl, b2⟩)
    go_ret
    exact ⟨HA.out.2.1.trans (b2.mono HA.out.2.1.size), .inl ⟨fun h => HS.out h.right, rfl⟩⟩
  have hd : decide (RightS s) = true := by simp [hr]
  rw [hd] at hR
  have HR : Hid (Calls Tryz.prog 97 #[.agg #[.int .i64 s.z, .int .i64 s.zb, .int .i64 s.b, .int .i64 s.r]] W1 fun e w' => e = .returned (.bool true) ∧ Below W1.heap.size W1 w') := hR
  have HS : Hid (RightS s) := hr
  clear hR hd hr
  go_upto_region 2 with (go_at_call 97; refine HR.out.mono ?_; rintro e W2 ⟨rfl, b2⟩)
  have g0 := (b2.cell (old_block e0)).trans e0
  have g1 := (b2.cell (old_block e1)).trans e1
  have g2 := (b2.cell (old_block e2)).trans e2
  have g3 := (b2.cell (old_block e3)).trans e3
  have H2 : Hid (Below W.heap.size W W2 ∧ ZsIn W2 a n zs) := ⟨HA.out.2.1.trans (b2.mono HA.out.2.1.size), HA.out.2.2.below (HA.out.2.1.trans (b2.mono HA.out.2.1.size))⟩
  clear e0 e1 e2 e3 b2 HR
  by_cases hlen : (n : Int) = s.z
  rotate_left
  · have hne : ((n : Int) != s.z) = true := by simp [hlen]
    have HN : Hid (Opened 142 W s zs (.returned (.pointer none)) W2) := ⟨H2.out.1, .inl ⟨fun h => hlen (by have := h.len; have := H2.out.2.1; omega), rfl⟩⟩
    clear hlen
    go_wp2
    go_ret
    exact HN.out
  have Hlen : Hid ((n : Int) = s.z) := hlen
  rw [← hlen] at g0
  clear hlen
  have bad : ∀ (d : Nat), ¬ Wf s zs → Opened 142 W s zs (.returned (.pointer none)) (W2.drewN d) := fun d h => ⟨H2.out.1.trans ((below_drewN W2 d).mono H2.out.1.size), .inl ⟨h, rfl⟩⟩
  have HBad : Hid (∀ (d : Nat), ¬ Wf s zs → Opened 142 W s zs (.returned (.pointer none)) (W2.drewN d)) := bad
  clear bad
  go_wp2
  go_loopw [6] (fun x wr => ∃ i d : Nat, x = .int .i64 i ∧ i ≤ n ∧ wr = W2.drewN d ∧ ∀ z ∈ zs.take i, GoodZ s z) (fun x wr => n - (intOf x).toNat)
  case atStart => exact ⟨0, 0, rfl, Nat.zero_le _, rfl, by simp⟩
  case round =>
    obtain ⟨i, d, rfl, hi, rfl, hgood⟩ := hrel
    rcases Nat.lt_or_ge i n with hlt | hge
    · obtain ⟨z, hz⟩ : ∃ z, zs[i]? = some z := ⟨zs[i]'(by have := H2.out.2.1; omega), by simp⟩
      obtain ⟨b, off, hab, hc⟩ := H2.out.2.2.2.resolve_left (by omega)
      subst hab
      obtain ⟨A, L, C, d0, d1, hbs⟩ := hc i z hz
      obtain ⟨dd, hdd⟩ : ∃ dd, dd = z.2 := ⟨_, rfl⟩
      rw [← hdd] at d1
      have hi' : (i : Int) < (n : Int) := by omega
      have hw1 : IntKind.i64.wrap ((i : Int) + 1) = (i : Int) + 1 := by rw [IntKind.wrap_i64]; omega
      have hLb := hbs.2.1
      have HI : Hid (zs[i]? = some z ∧ BsIn W2 A L z.1 ∧ z.1.length = L ∧ dd = z.2 ∧ (∀ z ∈ zs.take i, GoodZ s z)) := ⟨hz, hbs, hbs.1, hdd, hgood⟩
      have HNo : Hid (¬ GoodZ s z → ¬ Wf s zs) := wf_bad hz
      clear hz hc hbs hdd hgood
      by_cases h1 : s.zb < (L : Int)
      · have hN : Hid (¬ GoodZ s z) := fun h => by have := h.1; have := HI.out.2.2.1; omega
        have h1d : decide (s.zb < (L : Int)) = true := by simp; omega
        go_wp2
        go_ret
        exact HBad.out _ (HNo.out hN.out)
      have h1d : decide (s.zb < (L : Int)) = false := by simp; omega
      by_cases h2 : dd < 0
      · have hN : Hid (¬ GoodZ s z) := fun h => by have := h.2.1; have := HI.out.2.2.2.1; omega
        have h2d : decide (dd < 0) = true := by simp; omega
        go_wp2
        go_ret
        exact HBad.out _ (HNo.out hN.out)
      have h2d : decide (dd < 0) = false := by simp; omega
      by_cases h3 : (L : Int) < dd
      · have hN : Hid (¬ GoodZ s z) := fun h => by have := h.2.2.1; have := HI.out.2.2.2.1; have := HI.out.2.2.1; omega
        have h3d : decide ((L : Int) < dd) = true := by simp; omega
        go_wp2
        go_ret
        exact HBad.out _ (HNo.out hN.out)
      have h3d : decide ((L : Int) < dd) = false := by simp; omega
      have HQ : Hid ((L : Int) ≤ s.zb ∧ 0 ≤ dd ∧ dd ≤ (L : Int)) := ⟨by omega, by omega, by omega⟩
      clear h1 h2 h3
      go_wp2
      go_loopw [8] (fun x wr => ∃ t d : Nat, x = .int .i64 t ∧ t ≤ L ∧ wr = W2.drewN d ∧ ∀ D ∈ z.1.take t, (D.length : Int) = s.b) (fun x wr => L - (intOf x).toNat)
      case atStart => exact ⟨0, d, rfl, Nat.zero_le _, rfl, by simp⟩
      case round =>
        obtain ⟨t, d', rfl, ht, rfl, hall⟩ := hrel
        rcases Nat.lt_or_ge t L with hlt2 | hge2
        · have ht' : (t : Int) < L := by omega
          have hwt : IntKind.i64.wrap ((t : Int) + 1) = (t : Int) + 1 := by rw [IntKind.wrap_i64]; omega
          obtain ⟨b2, off2, hA, hc2⟩ := HI.out.2.1.2.2.resolve_left (by omega)
          subst hA
          obtain ⟨D, hD⟩ : ∃ D, z.1[t]? = some D := ⟨z.1[t]'(by have := HI.out.2.2.1; omega), by simp⟩
          obtain ⟨v, f1, A2, L2, C2, rfl, f2, f3, f4, f5⟩ := hc2 t D hD
          have HD : Hid (z.1[t]? = some D ∧ D.length = L2 ∧ (∀ D ∈ z.1.take t, (D.length : Int) = s.b)) := ⟨hD, f2.1, hall⟩
          clear hc2 hD f2 f3 f4 f5 hall
          by_cases h4 : (L2 : Int) = s.b
          · have h4d : ((L2 : Int) != s.b) = false := by simp [h4]
            have H4 : Hid ((L2 : Int) = s.b) := h4
            clear h4
            go_wp2
            go_quiet (fail)
            go_wp2
            go_roundw
            case rel =>
              refine ⟨t + 1, _, by go_num, by omega, rfl, fun y hy => ?_⟩
              rw [List.take_add_one, HD.out.1] at hy
              rcases List.mem_append.1 hy with h | h
              · exact HD.out.2.2 y h
              · simp at h; rw [h, HD.out.2.1]; exact H4.out
            case measure => simp [intOf]; omega
          · have h4d : ((L2 : Int) != s.b) = true := by simp [h4]
            have hN : Hid (¬ GoodZ s z) := fun h => h4 (by have := h.2.2.2 D (List.mem_of_getElem? HD.out.1); have := HD.out.2.1; omega)
            clear h4
            go_wp2
            go_quiet (fail)
            go_wp2
            go_ret
            rw [World.drewN_drewN]
            exact HBad.out _ (HNo.out hN.out)
        · obtain rfl : t = L := by omega
          have HY : Hid (GoodZ s z) := by
            rw [List.take_of_length_le (by have := HI.out.2.2.1; omega)] at hall
            have h1 := HI.out.2.2.1
            have h2 := HI.out.2.2.2.1
            have h3 := HQ.out
            exact ⟨by omega, by omega, by omega, hall⟩
          clear hall
          go_wp2
          go_roundw
          case rel =>
            refine ⟨i + 1, _, by go_num, by omega, rfl, fun y hy => ?_⟩
            rw [List.take_add_one, HI.out.1] at hy
            rcases List.mem_append.1 hy with h | h
            · exact HI.out.2.2.2.2 y h
            · simp at h; rw [h]; exact HY.out
          case measure => simp [intOf]; omega
    · obtain rfl : i = n := by omega
      have HF : Hid (Wf s zs) := by
        rw [List.take_of_length_le (by have := H2.out.2.1; omega)] at hgood
        exact ⟨HS.out, by have := H2.out.2.1; have := Hlen.out; omega, hgood⟩
      clear hgood
      obtain ⟨V, hV⟩ : ∃ V, V = W2.drewN d := ⟨_, rfl⟩
      have hbV : Below W2.heap.size W2 V := by rw [hV]; exact below_drewN W2 d
      have k0 := (hbV.cell (old_block g0)).trans g0
      have k1 := (hbV.cell (old_block g1)).trans g1
      have k2 := (hbV.cell (old_block g2)).trans g2
      have k3 := (hbV.cell (old_block g3)).trans g3
      have HV : Hid (Below W.heap.size W V ∧ ZsIn V a i zs) := ⟨H2.out.1.trans (hbV.mono H2.out.1.size), H2.out.2.below hbV⟩
      rw [← hV]
      clear hV hbV g0 g1 g2 g3
      obtain ⟨Z, hZ⟩ : ∃ Z : Int, Z = s.z := ⟨_, rfl⟩
      have HZl : Hid (zs.length = i ∧ 0 < zs.length) := ⟨HV.out.2.1, by have := HV.out.2.1; have := HS.out.1; have := Hlen.out; omega⟩
      have HW : Hid (∀ (X : World), Below V.heap.size V X → Calls Tryz.prog 116 #[.slice a i c] X (ZonesE X zs)) := fun X hX => rlent_of a i c zs X (HV.out.2.below hX)
      clear hZ Z
      go_wp2
      go_region_held3 (fun X => X.cell? ⟨q, 0, none⟩ = some (.int .i64 (i : Int)) ∧ X.cell? ⟨q, 1, none⟩ = some (.int .i64 s.zb) ∧ X.cell? ⟨q, 2, none⟩ = some (.int .i64 s.b) ∧ X.cell? ⟨q, 3, none⟩ = some (.int .i64 s.r)) (first | exact ⟨k0, k1, k2, k3⟩ | exact ⟨m0 _, m1 _, m2 _, m3 _⟩ | exact ⟨j0, j1, j2, j3⟩)
        ((go_at_call 116; refine (HW.out _ (by exact (Below.refl _ _).drew)).mono ?_; rintro e w3 ⟨v3, rfl, r3, b3⟩; obtain ⟨va, vc, hv3⟩ := r3.slice; rw [HZl.out.1] at hv3; subst hv3; have b3' : Below V.heap.size V w3 := ⟨b3.os, b3.tape, b3.output, b3.size, b3.block⟩; have j0 := (b3'.cell (old_block k0)).trans k0; have j1 := (b3'.cell (old_block k1)).trans k1; have j2 := (b3'.cell (old_block k2)).trans k2; have j3 := (b3'.cell (old_block k3)).trans k3; have bo : ∀ o, Below w3.heap.size w3 (w3.alloc o) := (fun o => (Below.refl _ _).alloc (Nat.le_refl _) o); have m0 := (fun o => ((bo o).cell (old_block j0)).trans j0); have m1 := (fun o => ((bo o).cell (old_block j1)).trans j1); have m2 := (fun o => ((bo o).cell (old_block j2)).trans j2); have m3 := (fun o => ((bo o).cell (old_block j3)).trans j3)))
      all_goals (
        have HE : Hid (Opened 142 W s zs (.returned (.pointer (some ⟨w3.heap.size, 0, none⟩))) (w3.alloc (.cells #[.int .i64 (i : Int), .int .i64 s.zb, .int .i64 s.b, .int .i64 s.r, .slice va i vc] 142))) := by
          have hb3 := HV.out.1.trans (b3'.mono HV.out.1.size)
          refine ⟨hb3.alloc hb3.size _, .inr ⟨HF.out, _, rfl, ?_⟩⟩
          have hz := Hlen.out
          have r4 : ZsAt (fun x => W.heap.size ≤ x) w3 (.slice va zs.length vc) zs := by rw [HZl.out.1]; exact r3.mono (fun x hx _ => Nat.le_trans HV.out.1.size hx)
          have := zs_dev (T := 142) (s := s) (by decide) r4 HZl.out.2 hb3.size
          rw [HZl.out.1, ← hz] at this
          exact this
        clear r3 b3 b3' j0 j1 j2 j3 bo m0 m1 m2 m3
        go_wp2
        go_ret
        exact HE.out)
end Go.Proofs.YtfcbcpjcmihooaaGreat
