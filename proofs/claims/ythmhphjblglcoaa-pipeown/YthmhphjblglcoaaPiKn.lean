/- The chapter's example, and what is too much, for the laws of the pipe. -/
import Derived.Test.YthmhphjblglcoaaPiOpen
namespace Go.Proofs.Ythmhphjblglcoaa
open Go.RowKit
set_option linter.unusedVariables false
set_option maxRecDepth 4000
def All : Nat → Prop := fun _ => True
def exK (n : Nat) : List Pq := (List.range n).map fun (i : Nat) => ((⟨0, 0, (i : Int) + 1, 0, 0⟩ : Rq), ([] : List Int))
theorem exK_length (n : Nat) : (exK n).length = n := by simp [exK]
theorem exK_next (n : Nat) : exK (n + 1) = exK n ++ [(⟨0, 0, (n : Int) + 1, 0, 0⟩, [])] := by simp [exK, List.range_succ]
section
variable {W w w' : World} {b : Nat}
theorem out_below {n : Nat} (hb : Below n W w) (hbn : n ≤ b) (ho : Out (fun k => k = b) w w') (hs : n ≤ w.heap.size) : Below n W w' := hb.trans (ho.below hs (fun j e => by omega))
end
set_option maxHeartbeats 4000000 in
theorem known_any (W : World) : Calls Try.prog 8 #[] W fun e w' => e = .returned (.bool true) ∧ Below W.heap.size W w' := by
  obtain ⟨b, hb⟩ : ∃ b, b = W.heap.size := ⟨_, rfl⟩
  have HB : Hid (b = W.heap.size) := hb
  have HN : Hid (Calls Try.prog 9 #[] W fun e w' => e = .returned (.pointer (some ⟨b, 0, none⟩)) ∧ PP All w' b (exK 0) ∧ Below W.heap.size W w') := by show Calls _ _ _ _ _; rw [hb]; exact pNew_of All W
  have HA : Hid (∀ V (j : Nat), j < 3 → PP All V b (exK j) → Below W.heap.size W V → Calls Try.prog 13 #[.pointer (some ⟨b, 0, none⟩), .agg #[.int .u16 0, .int .u16 0, .int .u64 ((j : Int) + 1), .int .u64 0, .int .u32 0, .slice none 0 0]] V fun e w' => ∃ r, e = .returned (.bool r) ∧ PP All w' b (exK (j + 1)) ∧ Below W.heap.size W w') := fun V j hj hp hbl => by
    refine (pAdd_of (⟨0, 0, (j : Int) + 1, 0, 0⟩, []) none 0 0 hp ⟨bin_none _, Nat.le_refl _, fun _ => ⟨rfl, rfl⟩⟩ (by decide) (by simp [Rq.Fits, Fits16, FitsU, Fits32]; omega) (fun _ _ => trivial)).mono ?_
    rintro e w' ⟨rfl, h1, h2⟩
    refine ⟨_, rfl, ?_, out_below hbl (by omega) h2 hbl.size⟩
    rw [exK_next]
    rw [addL, if_neg (by rw [exK_length]; omega)] at h1
    exact h1
  have e3 : (exK 3).eraseIdx 1 = [(⟨0, 0, 1, 0, 0⟩, []), (⟨0, 0, 3, 0, 0⟩, [])] := by rfl
  have HT : Hid (∀ V, PP All V b (exK 3) → Below W.heap.size W V → Calls Try.prog 15 #[.pointer (some ⟨b, 0, none⟩), .int .i64 1] V fun e w' => ∃ A C, e = .returned (.tuple #[.agg #[.int .u16 0, .int .u16 0, .int .u64 2, .int .u64 0, .int .u32 0, .slice A 0 C], .bool true]) ∧ PP All w' b [(⟨0, 0, 1, 0, 0⟩, []), (⟨0, 0, 3, 0, 0⟩, [])] ∧ Below W.heap.size W w') := fun V hp hbl => by
    refine (pTake_one (k := 1) (⟨0, 0, 2, 0, 0⟩, []) hp rfl).mono ?_
    rintro e w' ⟨A, C, rfl, _, h1, h2⟩
    rw [e3] at h1
    exact ⟨A, C, rfl, h1, out_below hbl (by omega) h2 hbl.size⟩
  have HL : Hid (∀ V, PP All V b [(⟨0, 0, 1, 0, 0⟩, []), (⟨0, 0, 3, 0, 0⟩, [])] → Below W.heap.size W V → Calls Try.prog 23 #[.pointer (some ⟨b, 0, none⟩)] V fun e w' => ∃ g C, e = .returned (.slice (some ⟨g, 0, none⟩) 2 C) ∧ (∀ w2, Below w'.heap.size w' w2 → w2.cell? ⟨g, 2, none⟩ = some (.int .u64 1) ∧ w2.cell? ⟨g, 8, none⟩ = some (.int .u64 3)) ∧ PP All w' b [(⟨0, 0, 1, 0, 0⟩, []), (⟨0, 0, 3, 0, 0⟩, [])] ∧ Below W.heap.size W w' ∧ Below V.heap.size V w') := fun V hp hbl => by
    refine (pAll_of hp).mono ?_
    rintro e w' ⟨A, C, rfl, hg⟩
    obtain ⟨us, h1, h2⟩ := hg.ow
    rcases h1.2 with ⟨hv, h0⟩ | ⟨g, cap, cur, hv, r⟩
    · simp at h0
    · simp only [Value.slice.injEq] at hv
      obtain ⟨rfl, _, rfl⟩ := hv
      obtain ⟨u0, hu0⟩ : ∃ v, us[0]? = some v := ⟨us[0]'(by rw [h2.1]; simp), by simp⟩
      obtain ⟨u1, hu1⟩ : ∃ v, us[1]? = some v := ⟨us[1]'(by rw [h2.1]; simp), by simp⟩
      have c0 := h1.cells (g := g) rfl (0 * 6 + 2) _ (by rw [rqC_get _ us 0 (⟨0, 0, 1, 0, 0⟩, []) u0 2 rfl hu0 (by decide)]; rfl)
      have c1 := h1.cells (g := g) rfl (1 * 6 + 2) _ (by rw [rqC_get _ us 1 (⟨0, 0, 3, 0, 0⟩, []) u1 2 rfl hu1 (by decide)]; rfl)
      rw [Addr.add_mid, Nat.zero_add] at c0 c1
      refine ⟨g, C, rfl, fun w2 hw2 => ⟨by rw [hw2.cell (old_block c0)]; exact c0, by rw [hw2.cell (old_block c1)]; exact c1⟩, hp.below hg.bel, hbl.trans (hg.bel.mono hbl.size), hg.bel⟩
  have HZ : Hid (∀ V, PP All V b [(⟨0, 0, 1, 0, 0⟩, []), (⟨0, 0, 3, 0, 0⟩, [])] → Calls Try.prog 15 #[.pointer (some ⟨b, 0, none⟩), .int .i64 2] V fun e w' => e = .returned (.tuple #[.agg #[.int .u16 0, .int .u16 0, .int .u64 0, .int .u64 0, .int .u32 0, .slice none 0 0], .bool false]) ∧ Below V.heap.size V w') := fun V hp => pTake_none 2 hp (by simp)
  clear hb e3
  go_enter Try.func8, Try.ntmps8
  go_wp2_with (go_at_call 9; refine HN.out.mono ?_; rintro e w1 ⟨rfl, hp1, hb1⟩)
  go_loopw [2] (fun x wr => ∃ (j : Nat), x = .int .u64 ((j : Int) + 1) ∧ j ≤ 3 ∧ PP All wr b (exK j) ∧ Below W.heap.size W wr) (fun x _ => 4 - (intOf x).toNat)
  case atStart => exact ⟨0, rfl, by decide, hp1, hb1⟩
  case round =>
    obtain ⟨j, rfl, hj, hp, hbl⟩ := hrel
    by_cases hlt : j < 3
    · have hlt' : (j : Int) + 1 < 4 := by omega
      have hwj : IntKind.u64.wrap ((j : Int) + 1 + 1) = ((j + 1 : Nat) : Int) + 1 := by rw [IntKind.wrap_u64]; omega
      have H1 : Hid (PP All wr b (exK j) ∧ Below W.heap.size W wr) := ⟨hp, hbl⟩
      clear hp hbl hp1 hb1
      go_wp2_with (go_at_call 13; refine (HA.out _ j hlt H1.out.1 H1.out.2).mono ?_; rintro e w2 ⟨r, rfl, hp2, hb2⟩)
      have H2 : Hid (PP All w2 b (exK (j + 1)) ∧ Below W.heap.size W w2) := ⟨hp2, hb2⟩
      clear hp2 hb2
      go_wp2
      go_roundw
      case rel => exact ⟨j + 1, rfl, by omega, H2.out⟩
      case measure => simp [intOf]; omega
    · obtain rfl : j = 3 := by omega
      have H1 : Hid (PP All wr b (exK 3) ∧ Below W.heap.size W wr) := ⟨hp, hbl⟩
      clear hp hbl hp1 hb1
      go_wp2_with (go_at_call 15; refine (HT.out _ H1.out.1 H1.out.2).mono ?_; rintro e w2 ⟨A, C, rfl, hp2, hb2⟩)
      have H2 : Hid (PP All (w2.alloc (.cells #[.int .u16 0, .int .u16 0, .int .u64 2, .int .u64 0, .int .u32 0, .slice A 0 C] 34)) b [(⟨0, 0, 1, 0, 0⟩, []), (⟨0, 0, 3, 0, 0⟩, [])] ∧ Below W.heap.size W (w2.alloc (.cells #[.int .u16 0, .int .u16 0, .int .u64 2, .int .u64 0, .int .u32 0, .slice A 0 C] 34))) := ⟨hp2.below ((Below.refl _ _).alloc (Nat.le_refl _) _), hb2.alloc hb2.size _⟩
      have hr2 : (w2.alloc (.cells #[.int .u16 0, .int .u16 0, .int .u64 2, .int .u64 0, .int .u32 0, .slice A 0 C] 34)).cell? ⟨w2.heap.size, 2, none⟩ = some (.int .u64 2) := by rw [World.cell?_alloc_mark]; rfl
      revert hr2 H2
      generalize World.alloc w2 _ = V2
      intro H2 hr2
      refine (HL.out _ H2.out.1 H2.out.2).mono ?_
      rintro e w3 ⟨g, C3, rfl, hc3, hp3, hb3, hbV⟩
      have hr3 : w3.cell? ⟨w2.heap.size, 2, none⟩ = some (.int .u64 2) := by rw [hbV.cell (old_block hr2)]; exact hr2
      have H3 : Hid ((∀ w2, Below w3.heap.size w3 w2 → w2.cell? ⟨g, 2, none⟩ = some (.int .u64 1) ∧ w2.cell? ⟨g, 8, none⟩ = some (.int .u64 3)) ∧ PP All w3 b [(⟨0, 0, 1, 0, 0⟩, []), (⟨0, 0, 3, 0, 0⟩, [])] ∧ Below W.heap.size W w3) := ⟨hc3, hp3, hb3⟩
      clear hc3 hp3 hb3 hbV hp2 hb2 hr2
      go_wp2_with (go_at_call 15; refine (HZ.out _ H3.out.2.1).mono ?_; rintro e w4 ⟨rfl, hb4⟩; have hb5 : Below w3.heap.size w3 (w4.alloc (.cells #[.int .u16 0, .int .u16 0, .int .u64 0, .int .u64 0, .int .u32 0, .slice none 0 0] 34)) := hb4.alloc hb4.size _; have hr4 : (w4.alloc (.cells #[.int .u16 0, .int .u16 0, .int .u64 0, .int .u64 0, .int .u32 0, .slice none 0 0] 34)).cell? ⟨w2.heap.size, 2, none⟩ = some (.int .u64 2) := (by rw [hb5.cell (old_block hr3)]; exact hr3); obtain ⟨hf0, hf1⟩ := H3.out.1 _ hb5; have H4 : Hid (Below W.heap.size W (w4.alloc (.cells #[.int .u16 0, .int .u16 0, .int .u64 0, .int .u64 0, .int .u32 0, .slice none 0 0] 34))) := H3.out.2.2.trans (hb5.mono H3.out.2.2.size); clear hb4 hb5)
      go_ret
      exact ⟨rfl, H4.out⟩
/-- More than is looked at. -/
def hvO (n : Nat) (os : List Po) : Bool := decide (150 < n) || os.any (fun o => decide (100 < o.p.2.length))
set_option maxHeartbeats 4000000 in
theorem heavy_of (a : Option Addr) (n c : Nat) (os : List Po) (W : World) (hi : OsIn W a n os) : Calls Try.prog 7 #[.slice a n c] W fun e w' => e = .returned (.bool (hvO n os)) ∧ Below W.heap.size W w' := by
  have HI : Hid (OsIn W a n os) := hi
  have hsl := hi.1
  clear hi
  by_cases h150 : (150 : Int) < n
  · go_enter Try.func7, Try.ntmps7
    go_wp2
    go_ret
    exact ⟨by rw [hvO, decide_eq_true (by omega)]; rfl, Below.refl _ _⟩
  · go_enter Try.func7, Try.ntmps7
    go_wp2
    go_loopw [3] (fun x wr => ∃ (j : Nat), x = .int .i64 j ∧ j ≤ n ∧ (∀ i o, i < j → os[i]? = some o → o.p.2.length ≤ 100) ∧ Below W.heap.size W wr) (fun x _ => n - (intOf x).toNat)
    case atStart => exact ⟨0, rfl, Nat.zero_le _, fun i o hi => by omega, Below.refl _ _⟩
    case round =>
      obtain ⟨j, rfl, hj, hall, hbl⟩ := hrel
      by_cases hlt : j < n
      · have hj' : (j : Int) < n := by omega
        have hwj : IntKind.i64.wrap ((j : Int) + 1) = (j : Int) + 1 := by rw [IntKind.wrap_i64]; omega
        obtain ⟨b, off, o, A, k, C, rfl, ho, hf, hk, hd, hc⟩ := (HI.out.below hbl).at hlt
        have x8 : wr.cell? ⟨b, off + j * 9 + 8, none⟩ = some (.slice A k C) := hc 8 _ rfl
        have HO : Hid (os[j]? = some o ∧ o.p.2.length = k ∧ (∀ i o, i < j → os[i]? = some o → o.p.2.length ≤ 100) ∧ Below W.heap.size W wr) := ⟨ho, hd.1.1, hall, hbl⟩
        clear ho hf hk hd hc hall hbl
        by_cases h1 : (100 : Int) < k
        · go_wp2
          go_ret
          refine ⟨?_, HO.out.2.2.2⟩
          have : os.any (fun o => decide (100 < o.p.2.length)) = true := List.any_eq_true.2 ⟨o, List.mem_of_getElem? HO.out.1, decide_eq_true (by have := HO.out.2.1; omega)⟩
          rw [hvO, this, Bool.or_true]
          rfl
        · go_wp2
          go_roundw
          case rel => exact ⟨j + 1, by simp, by omega, fun i o' hi ho' => by
            by_cases hij : i < j
            · exact HO.out.2.2.1 i o' hij ho'
            · obtain rfl : i = j := by omega
              rw [HO.out.1] at ho'; cases ho'
              have := HO.out.2.1; omega, HO.out.2.2.2⟩
          case measure => simp [intOf]; omega
      · obtain rfl : j = n := by omega
        have HO : Hid ((∀ i o, i < j → os[i]? = some o → o.p.2.length ≤ 100) ∧ Below W.heap.size W wr) := ⟨hall, hbl⟩
        clear hall hbl
        go_wp2
        go_ret
        refine ⟨?_, HO.out.2⟩
        have : os.any (fun o => decide (100 < o.p.2.length)) = false := by
          rw [List.any_eq_false]
          intro o ho
          obtain ⟨i, hi, rfl⟩ := List.mem_iff_getElem.1 ho
          have := HO.out.1 i _ (by omega) (List.getElem?_eq_getElem hi)
          simp; omega
        rw [hvO, this, decide_eq_false (by omega)]
        rfl
theorem hvO_no {n : Nat} {os : List Po} (h : hvO n os = false) : n ≤ 150 ∧ ∀ o ∈ os, o.p.2.length ≤ 100 := by
  unfold hvO at h
  simp only [Bool.or_eq_false_iff, decide_eq_false_iff_not, List.any_eq_false] at h
  refine ⟨by omega, fun o ho => ?_⟩
  have := h.2 o ho
  simp at this
  exact this
end Go.Proofs.Ythmhphjblglcoaa
