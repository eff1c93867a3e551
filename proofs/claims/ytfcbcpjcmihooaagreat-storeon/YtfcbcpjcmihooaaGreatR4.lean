/- Texts of this seat, one behind the other: ZRaw. -/
import Derived.Test.YtfcbcpjcmihooaaGreatP24
import Derived.Test.YtfcbcpjcmihooaaGreatR2
/- Zones that come in, of whatever weight; what one call of the document's Zones (how many) and Heavy does. -/
namespace Go.Proofs.YtfcbcpjcmihooaaGreat
open Go.RowKit Go.ChangeShapes Go.WideShapes
set_option linter.unusedVariables false
set_option maxRecDepth 4000

def BkRaw (W : World) (v : Value) (D : List Int) : Prop := ∃ A L C, v = .slice A L C ∧ BIn W A L D ∧ (A = none → L = 0 ∧ C = 0) ∧ L ≤ C
def BsRaw (W : World) (a : Option Addr) (n : Nat) (bs : List (List Int)) : Prop :=
  bs.length = n ∧ n ≤ maxLen ∧ (n = 0 ∨ ∃ b off, a = some ⟨b, off, none⟩ ∧ ∀ (i : Nat) (D : List Int), bs[i]? = some D → ∃ v, W.cell? ⟨b, off + i, none⟩ = some v ∧ BkRaw W v D)
def ZsRaw (W : World) (a : Option Addr) (n : Nat) (zs : List Zn) : Prop :=
  zs.length = n ∧ n ≤ maxLen ∧ (n = 0 ∨ ∃ b off, a = some ⟨b, off, none⟩ ∧ ∀ (i : Nat) (z : Zn), zs[i]? = some z → ∃ A L C, W.cell? ⟨b, off + i * 2, none⟩ = some (.slice A L C) ∧ W.cell? ⟨b, off + i * 2 + 1, none⟩ = some (.int .i64 z.2) ∧ BsRaw W A L z.1)
def ZnF (zs : List Zn) : Prop := ∀ z ∈ zs, F64 z.2
def LightZ (zs : List Zn) : Prop := zs.length ≤ 60 ∧ ∀ z ∈ zs, z.1.length ≤ 60 ∧ ∀ D ∈ z.1, D.length ≤ 200
theorem ZsRaw.light {W : World} {a : Option Addr} {n : Nat} {zs : List Zn} (h : ZsRaw W a n zs) (hl : LightZ zs) : ZsIn W a n zs := by
  obtain ⟨h1, h2, h3⟩ := h
  refine ⟨h1, by have := hl.1; omega, ?_⟩
  rcases h3 with h3 | ⟨b, off, ha, hc⟩
  · exact .inl h3
  · refine .inr ⟨b, off, ha, fun i z hi => ?_⟩
    obtain ⟨A, L, C, h4, h5, h6⟩ := hc i z hi
    have hz := hl.2 z (List.mem_of_getElem? hi)
    refine ⟨A, L, C, h4, h5, h6.1, by have := hz.1; have := h6.1; omega, ?_⟩
    rcases h6.2.2 with h7 | ⟨b', off', hA, hc'⟩
    · exact .inl h7
    · refine .inr ⟨b', off', hA, fun k D hk => ?_⟩
      obtain ⟨v, h8, A', L', C', h9, h10, h11, h12⟩ := hc' k D hk
      exact ⟨v, h8, A', L', C', h9, h10, h11, h12, by have := hz.2 D (List.mem_of_getElem? hk); have := h10.1; omega⟩
section
variable {H : Type} {enc : TypeId × Value → H} {W : World}
theorem blocks_of {a : Option Addr} {len cap fuel : Nat} {y : DataW H × List MemPlace} (h : DataW.trod enc Tryz.prog W 0 (fun _ => true) true fuel 78 [.slice a len cap] = some y) : ∃ bs, BsRaw W a len bs := by
  obtain ⟨⟨h1, h2, h3⟩, h4⟩ := rows_of Tryz.underlying78 (sz := 1) (by kernel_rfl) (by decide) h
  rcases h4 with rfl | ⟨b, off, rfl, hc⟩
  · exact ⟨[], rfl, Nat.zero_le _, .inl rfl⟩
  · obtain ⟨bs, hl, hp⟩ := list_of (n := len) (p := fun i (D : List Int) => ∃ v, W.cell? ⟨b, off + i, none⟩ = some v ∧ BkRaw W v D) (fun i hi => by
      obtain ⟨cs, e1, e2, f, y', e3⟩ := hc i hi
      match cs, e1 with
      | [v], _ =>
        obtain ⟨A, L, C, rfl⟩ := slice_form Tryz.underlying36 e3
        obtain ⟨D, hD, hLC, hDn⟩ := bytes_of e3
        refine ⟨D, .slice A L C, ?_, A, L, C, rfl, hD, hDn, hLC⟩
        have := e2 0 (by decide)
        simpa using this)
    exact ⟨bs, hl, Nat.le_trans h1 h2, .inr ⟨b, off, rfl, fun i D hi => hp i D hi⟩⟩
theorem zone_of {cs : List Value} {n : Nat} {y : DataW H × List MemPlace} (h : DataW.trod enc Tryz.prog W 0 (fun _ => true) true n 107 cs = some y) : ∃ (z : Zn) (A : Option Addr) (L C : Nat), cs = [.slice A L C, .int .i64 z.2] ∧ BsRaw W A L z.1 ∧ F64 z.2 := by
  obtain ⟨xs, m, _, _, hlen, hxl, hf⟩ := DataW.trod_struct Tryz.underlying107 h
  have hc2 : Tryz.prog.cellsOf 107 = 2 := by kernel_rfl
  rw [hc2] at hlen
  match cs, hlen, xs, hxl with
  | [v0, v1], _, [x0, x1], _ =>
    have h0 := hf 0 _ rfl
    have h1 := hf 1 _ rfl
    simp only [List.getElem?_cons_zero, List.getElem?_cons_succ] at h0 h1
    obtain ⟨A, L, C, rfl⟩ := slice_form Tryz.underlying78 h0
    obtain ⟨bs, hbs⟩ := blocks_of h0
    obtain ⟨t, rfl, f1⟩ := int_of h1
    exact ⟨(bs, t), A, L, C, rfl, hbs, f1⟩
theorem open_zones {a : Option Addr} {len cap : Nat} {d : DataW H} {p : List MemPlace} (h : Came enc W 45 (.slice a len cap) d p) : ∃ zs, ZsRaw W a len zs ∧ ZnF zs := by
  obtain ⟨fuel, hf⟩ := h
  have hf' : DataW.trod enc Tryz.prog W 0 (fun _ => true) true fuel 45 [.slice a len cap] = some (d, p) := by simpa [Value.cells] using hf
  obtain ⟨⟨h1, h2, h3⟩, h4⟩ := rows_of Tryz.underlying45 (sz := 2) (by kernel_rfl) (by decide) hf'
  rcases h4 with rfl | ⟨b, off, rfl, hc⟩
  · exact ⟨[], ⟨rfl, Nat.zero_le _, .inl rfl⟩, fun z h => by simp at h⟩
  · obtain ⟨zs, hl, hp⟩ := list_of (n := len) (p := fun i (z : Zn) => (∃ A L C, W.cell? ⟨b, off + i * 2, none⟩ = some (.slice A L C) ∧ W.cell? ⟨b, off + i * 2 + 1, none⟩ = some (.int .i64 z.2) ∧ BsRaw W A L z.1) ∧ F64 z.2) (fun i hi => by
      obtain ⟨cs, e1, e2, f, y', e3⟩ := hc i hi
      obtain ⟨z, A, L, C, rfl, hb, hF⟩ := zone_of e3
      exact ⟨z, ⟨A, L, C, e2 0 (by decide), e2 1 (by decide), hb⟩, hF⟩)
    refine ⟨zs, ⟨hl, Nat.le_trans h1 h2, .inr ⟨b, off, rfl, fun i z hi => (hp i z hi).1⟩⟩, fun z hz => ?_⟩
    obtain ⟨i, hi⟩ := List.getElem?_of_mem hz
    exact (hp i z hi).2
end
/-! ### Heavy -/
set_option maxHeartbeats 1000000 in
theorem count_of (a : Option Addr) (n c : Nat) (zs : List Zn) (w : World) (h : ZsRaw w a n zs) :
    Calls Tryz.prog 53 #[.slice a n c, .int .i64 60] w fun e w' => ∃ k : Int, e = .returned (.int .i64 k) ∧ w' = w ∧ (k ≤ 60 → n ≤ 60 ∧ ∀ z ∈ zs, z.1.length ≤ 60) := by
  have hn : n ≤ 9223372036854775807 := by have := h.2.1; unfold maxLen at this; omega
  have H : Hid (ZsRaw w a n zs) := h
  clear h
  go_enter Tryz.func53, Tryz.ntmps53
  go_wp2
  go_loopw [5, 6] (fun s i wr => ∃ (j : Nat) (k : Int), j ≤ n ∧ s = .int .i64 k ∧ i = .int .i64 j ∧ wr = w ∧ (j : Int) ≤ k ∧ k ≤ 301 ∧ (k ≤ 60 → ∀ z ∈ zs.take j, z.1.length ≤ 60)) (fun _ i _ => n - (intOf i).toNat)
  case atStart => exact ⟨0, 0, Nat.zero_le _, rfl, rfl, rfl, by omega, by omega, by simp⟩
  case round =>
    obtain ⟨j, k, hj, rfl, rfl, rfl, hjk, hk, hall⟩ := hrel
    rcases Nat.lt_or_ge j n with hlt | hge
    · have hj' : (j : Int) < n := by omega
      by_cases hk1 : k ≤ 60
      · obtain ⟨b, off, ha, hc⟩ := H.out.2.2.resolve_left (by omega)
        have hkl : j < zs.length := by rw [H.out.1]; exact hlt
        obtain ⟨z, hz⟩ : ∃ z, zs[j]? = some z := ⟨zs[j], by simp [hkl]⟩
        obtain ⟨A, L, C, e1, e2, e3⟩ := hc j z hz
        subst ha
        have HX : Hid (zs[j]? = some z ∧ z.1.length = L ∧ (k ≤ 60 → ∀ z ∈ zs.take j, z.1.length ≤ 60) ∧ (j : Int) ≤ k) := ⟨hz, e3.1, hall, hjk⟩
        have hLm : L ≤ 9223372036854775807 := by have := e3.2.1; unfold maxLen at this; omega
        have hwj : IntKind.i64.wrap ((j : Int) + 1) = (j : Int) + 1 := by rw [IntKind.wrap_i64]; omega
        clear hc hz e2 e3 hall hkl
        by_cases hL : (L : Int) ≤ 60
        · have hw1 : IntKind.i64.wrap (1 + (L : Int)) = 1 + L := by rw [IntKind.wrap_i64]; omega
          have hw2 : IntKind.i64.wrap (k + (1 + (L : Int))) = k + (1 + L) := by rw [IntKind.wrap_i64]; omega
          go_wp2
          go_roundw
          case rel =>
            refine ⟨j + 1, k + (1 + L), by omega, by go_num, by go_num, by first | rfl | trivial, by omega, by omega, fun hk2 y hy => ?_⟩
            rw [List.take_add_one, HX.out.1] at hy
            rcases List.mem_append.1 hy with h | h
            · exact HX.out.2.2.1 (by omega) y h
            · simp at h; rw [h, HX.out.2.1]; omega
          case measure => simp [intOf]; omega
        · have hL' : (60 : Int) < L := by omega
          have hw2 : IntKind.i64.wrap (k + 61) = k + 61 := by rw [IntKind.wrap_i64]; omega
          go_wp2
          go_roundw
          case rel => exact ⟨j + 1, k + 61, by omega, by go_num, by go_num, by first | rfl | trivial, by omega, by omega, fun hk2 => by omega⟩
          case measure => simp [intOf]; omega
      · have hk2 : (60 : Int) < k := by omega
        go_wp2
        go_ret
        exact ⟨k, rfl, rfl, fun h => by omega⟩
    · obtain rfl : j = n := by omega
      have HX : Hid (k ≤ 60 → j ≤ 60 ∧ ∀ z ∈ zs, z.1.length ≤ 60) := fun h => ⟨by omega, by
        have := hall h
        rwa [List.take_of_length_le (by rw [H.out.1]; omega)] at this⟩
      clear hall
      go_wp2
      go_ret
      exact ⟨k, rfl, rfl, HX.out⟩
theorem ZsRaw.below {w w' : World} {a : Option Addr} {n : Nat} {zs : List Zn} (h : ZsRaw w a n zs) (hb : Below w.heap.size w w') : ZsRaw w' a n zs := by
  obtain ⟨h1, h2, h3⟩ := h
  refine ⟨h1, h2, ?_⟩
  rcases h3 with h3 | ⟨b, off, ha, hc⟩
  · exact .inl h3
  · refine .inr ⟨b, off, ha, fun i z hi => ?_⟩
    obtain ⟨A, L, C, h4, h5, h6, h7, h8⟩ := hc i z hi
    refine ⟨A, L, C, by rw [hb.cell (old_block h4)]; exact h4, by rw [hb.cell (old_block h5)]; exact h5, h6, h7, ?_⟩
    rcases h8 with h8 | ⟨b', off', hA, hc'⟩
    · exact .inl h8
    · refine .inr ⟨b', off', hA, fun k D hk => ?_⟩
      obtain ⟨v, h9, A', L', C', h10, h11, h12⟩ := hc' k D hk
      exact ⟨v, by rw [hb.cell (old_block h9)]; exact h9, A', L', C', h10, h11.below hb, h12⟩
set_option maxHeartbeats 1000000 in
theorem tooHeavy_of (a : Option Addr) (n c : Nat) (zs : List Zn) (w : World) (h : ZsRaw w a n zs) :
    Calls Tryz.prog 18 #[.slice a n c, .int .i64 60] w fun e w' => ∃ y : Bool, e = .returned (.bool y) ∧ w' = w ∧ (y = false → LightZ zs) := by
  have H : Hid (ZsRaw w a n zs) := h
  clear h
  go_enter Tryz.func18, Tryz.ntmps18
  go_wp2_with fail
  refine (count_of a n c zs w H.out).mono ?_
  rintro e w1 ⟨k, rfl, hw1, hk⟩
  replace hw1 := hw1.symm
  subst hw1
  by_cases hk1 : k ≤ 60
  · obtain ⟨hn, hL⟩ := hk hk1
    have HL : Hid (∀ z ∈ zs, z.1.length ≤ 60) := hL
    clear hk hL
    go_wp2
    go_loopw [5] (fun i wr => ∃ j : Nat, j ≤ n ∧ i = .int .i64 j ∧ wr = w ∧ ∀ z ∈ zs.take j, ∀ D ∈ z.1, D.length ≤ 200) (fun i _ => n - (intOf i).toNat)
    case atStart => exact ⟨0, Nat.zero_le _, rfl, rfl, by simp⟩
    case round =>
      obtain ⟨j, hj, rfl, rfl, hall⟩ := hrel
      rcases Nat.lt_or_ge j n with hlt | hge
      · have hj' : (j : Int) < n := by omega
        have hwj : IntKind.i64.wrap ((j : Int) + 1) = (j : Int) + 1 := by rw [IntKind.wrap_i64]; omega
        obtain ⟨b, off, ha, hc⟩ := H.out.2.2.resolve_left (by omega)
        have hkl : j < zs.length := by rw [H.out.1]; exact hlt
        obtain ⟨z, hz⟩ : ∃ z, zs[j]? = some z := ⟨zs[j], by simp [hkl]⟩
        obtain ⟨A, L, C, e1, e2, e3⟩ := hc j z hz
        subst ha
        have hLb : L ≤ 60 := by have := HL.out z (List.mem_of_getElem? hz); have := e3.1; omega
        have HX : Hid (zs[j]? = some z ∧ BsRaw wr A L z.1 ∧ (∀ z ∈ zs.take j, ∀ D ∈ z.1, D.length ≤ 200)) := ⟨hz, e3, hall⟩
        clear hc hz e2 e3 hall hkl
        obtain ⟨wk, rfl⟩ : ∃ wk, wk = wr := ⟨_, rfl⟩
        go_wp2
        go_loopw [6] (fun i wr => ∃ t : Nat, t ≤ L ∧ i = .int .i64 t ∧ wr = wk ∧ ∀ D ∈ z.1.take t, D.length ≤ 200) (fun i _ => L - (intOf i).toNat)
        case atStart => exact ⟨0, Nat.zero_le _, rfl, rfl, by simp⟩
        case round =>
          obtain ⟨t, ht, rfl, rfl, hall⟩ := hrel
          rcases Nat.lt_or_ge t L with hlt2 | hge2
          · have ht' : (t : Int) < L := by omega
            have hwt : IntKind.i64.wrap ((t : Int) + 1) = (t : Int) + 1 := by rw [IntKind.wrap_i64]; omega
            obtain ⟨b2, off2, hA, hc2⟩ := HX.out.2.1.2.2.resolve_left (by omega)
            have hkl : t < z.1.length := by rw [HX.out.2.1.1]; exact hlt2
            obtain ⟨D, hD⟩ : ∃ D, z.1[t]? = some D := ⟨z.1[t], by simp [hkl]⟩
            obtain ⟨v, d1, A2, L2, C2, rfl, d2, d3, d4⟩ := hc2 t D hD
            subst hA
            have HD : Hid (z.1[t]? = some D ∧ D.length = L2 ∧ (∀ D ∈ z.1.take t, D.length ≤ 200)) := ⟨hD, d2.1, hall⟩
            clear hc2 hD d2 d3 d4 hall hkl
            by_cases h2 : (200 : Int) < L2
            · go_wp2
              go_ret
              exact ⟨true, rfl, rfl, fun h => by cases h⟩
            · have h2' : (L2 : Int) ≤ 200 := by omega
              go_wp2
              go_roundw
              case rel =>
                refine ⟨t + 1, by omega, by go_num, by first | rfl | trivial, fun y hy => ?_⟩
                rw [List.take_add_one, HD.out.1] at hy
                rcases List.mem_append.1 hy with h | h
                · exact HD.out.2.2 y h
                · simp at h; rw [h, HD.out.2.1]; omega
              case measure => simp [intOf]; omega
          · obtain rfl : t = L := by omega
            have HY : Hid (∀ D ∈ z.1, D.length ≤ 200) := by
              rw [List.take_of_length_le (by rw [HX.out.2.1.1]; omega)] at hall
              exact hall
            clear hall
            go_wp2
            go_roundw
            case rel =>
              refine ⟨j + 1, by omega, by go_num, by first | rfl | trivial, fun y hy => ?_⟩
              rw [List.take_add_one, HX.out.1] at hy
              rcases List.mem_append.1 hy with h | h
              · exact HX.out.2.2 y h
              · simp at h; rw [h]; exact HY.out
            case measure => simp [intOf]; omega
      · obtain rfl : j = n := by omega
        have HY : Hid (LightZ zs) := by
          rw [List.take_of_length_le (by rw [H.out.1]; omega)] at hall
          exact ⟨by rw [H.out.1]; exact hn, fun z hz => ⟨HL.out z hz, hall z hz⟩⟩
        clear hall
        go_wp2
        go_ret
        exact ⟨false, rfl, rfl, fun _ => HY.out⟩
  · have hk2 : (60 : Int) < k := by omega
    clear hk
    go_wp2
    go_ret
    exact ⟨true, rfl, rfl, fun h => by cases h⟩
end Go.Proofs.YtfcbcpjcmihooaaGreat
