/- What one call of parts, Look and Issue does. -/
import Derived.Test.YtpliokkmiijieaaDoorPNum
import Derived.Test.YtpliokkmiijieaaDoorSpRead
import Derived.BigQuiet
import Derived.Laws.ResultCell
namespace Go.Proofs.YtpliokkmiijieaaDoor
open Go.RowKit
set_option linter.unusedVariables false
set_option maxRecDepth 4000

theorem read_len {cs : List Int} {n : Nat} (hl : cs.length = n) : (readI cs).length ≤ n := by have := readI_length cs; omega
set_option maxHeartbeats 1000000 in
theorem parts_good (s : ByteArray) (cs : List Int) (n : Nat) (w : World) (hs : s = strOfNums cs) (hf : ∀ z ∈ cs, Fits8 z) (hl : cs.length = n) (hn : n ≤ 100000) (hg : Good cs) :
    Calls Tryd.prog 29 #[.string s] w fun e w' => ∃ b off c, e = .returned (.tuple #[.slice (some ⟨b, off, none⟩) 18 c, .slice (some ⟨b, off + 18, none⟩) 32 (c - 18), .int .u16 0]) ∧ 50 ≤ c ∧ BIn w' (some ⟨b, off, none⟩) 50 (readI cs) ∧ Below w.heap.size w w' := by
  have hE : readE cs = 0 := by unfold readE; rw [if_pos hg.1]
  have C := spRead_at s cs n w hs hf hl hn
  rw [hE] at C
  have HG : Hid (Good cs) := hg
  clear hs hf hl hg hE
  go_enter Tryd.func29, Tryd.ntmps29
  go_wp2_with fail
  refine C.mono ?_
  rintro e w1 ⟨a, m, c, rfl, hb, -, hc, b1⟩
  clear C
  have hm : m = 50 := by rw [← hb.1]; exact HG.out.2.1
  subst hm
  obtain ⟨b, off, ha, hcell⟩ := hb.2.2.2.resolve_left (by omega)
  subst ha
  have c0 := hcell 0 (by omega)
  have c17 := hcell 17 (by omega)
  rw [Nat.add_zero, HG.out.2.2.1] at c0
  have l17 := HG.out.2.2.2
  have l0 := (byte_fits hb.2.2.1 17).1
  obtain ⟨x, ex⟩ : ∃ x, x = (readI cs).getD 17 0 := ⟨_, rfl⟩
  rw [← ex] at c17 l17 l0
  have HB : Hid (50 ≤ c ∧ BIn w1 (some ⟨b, off, none⟩) 50 (readI cs) ∧ Below w.heap.size w w1) := ⟨hc, hb, b1⟩
  have h18 : (18 : Int) ≤ c := by omega
  have h50 : (50 : Int) ≤ c := by omega
  have n18 : ¬ c = 18 := by omega
  clear hcell hb b1 hc ex
  go_wp2
  go_quiet (fail)
  go_wp2
  go_ret3
  exact ⟨b, off, c, rfl, HB.out.1, HB.out.2.1, below_drewN HB.out.2.2 _⟩

set_option maxHeartbeats 1000000 in
theorem parts_bad (s : ByteArray) (cs : List Int) (n : Nat) (w : World) (hs : s = strOfNums cs) (hf : ∀ z ∈ cs, Fits8 z) (hl : cs.length = n) (hn : n ≤ 100000) (hg : ¬ Good cs) :
    Calls Tryd.prog 29 #[.string s] w fun e w' => e = .returned (.tuple #[.slice none 0 0, .slice none 0 0, .int .u16 50]) ∧ Below w.heap.size w w' := by
  have C := spRead_at s cs n w hs hf hl hn
  have HG : Hid (¬ Good cs) := hg
  clear hs hf hl hg
  by_cases hr : Reads cs
  · have hE : readE cs = 0 := by unfold readE; rw [if_pos hr]
    rw [hE] at C
    have HR : Hid (Reads cs) := hr
    clear hE hr
    go_enter Tryd.func29, Tryd.ntmps29
    go_wp2_with fail
    refine C.mono ?_
    rintro e w1 ⟨a, m, c, rfl, hb, -, hc, b1⟩
    clear C
    by_cases hm : m = 50
    · subst hm
      obtain ⟨b, off, ha, hcell⟩ := hb.2.2.2.resolve_left (by omega)
      subst ha
      have c0 := hcell 0 (by omega)
      have c17 := hcell 17 (by omega)
      rw [Nat.add_zero] at c0
      have f0 := byte_fits hb.2.2.1 0
      have f17 := byte_fits hb.2.2.1 17
      have HL : Hid ((readI cs).length = 50) := hb.1
      obtain ⟨x0, e0⟩ : ∃ x, x = (readI cs).getD 0 0 := ⟨_, rfl⟩
      obtain ⟨x, ex⟩ : ∃ x, x = (readI cs).getD 17 0 := ⟨_, rfl⟩
      rw [← ex] at c17 f17
      rw [← e0] at c0 f0
      obtain ⟨f00, f01⟩ := f0
      obtain ⟨f70, f71⟩ := f17
      have HE : Hid (x0 = (readI cs).getD 0 0 ∧ x = (readI cs).getD 17 0) := ⟨e0, ex⟩
      have HB : Hid (Below w.heap.size w w1) := b1
      clear hcell hb b1 hc e0 ex
      by_cases h0 : x0 = 1
      · subst h0
        have h1 : 1 < x := by
          by_cases h : 1 < x
          · exact h
          · exact absurd ⟨HR.out, HL.out, HE.out.1.symm, by rw [← HE.out.2]; omega⟩ HG.out
        go_wp2
        go_ret3
        exact ⟨rfl, HB.out⟩
      · have h0' : ¬ (x0 == 1) = true := by simpa using h0
        go_wp2
        go_ret3
        exact ⟨rfl, HB.out⟩
    · have hm' : ¬ (m : Int) = 50 := by omega
      have HB : Hid (Below w.heap.size w w1) := b1
      clear hb b1 hc hm
      go_wp2
      go_ret3
      exact ⟨rfl, HB.out⟩
  · have hE : readE cs = 40 := by unfold readE; rw [if_neg hr]
    rw [hE] at C
    clear hr hE
    go_enter Tryd.func29, Tryd.ntmps29
    go_wp2_with fail
    refine C.mono ?_
    rintro e w1 ⟨a, m, c, rfl, hb, -, hc, b1⟩
    clear C hb hc
    have HB : Hid (Below w.heap.size w w1) := b1
    clear b1
    go_wp2
    go_ret3
    exact ⟨rfl, HB.out⟩

def tokL (t : Tok) : List Value := [.int .u32 t.tenant, .int .u32 t.serial, .bool t.ro, .int .u64 t.size]
theorem tokL_one (t : Tok) : ∀ v ∈ tokL t, v.oneCell' = true := by
  intro v hv
  simp only [tokL, List.mem_cons, List.not_mem_nil, or_false] at hv
  rcases hv with rfl | rfl | rfl | rfl <;> rfl
theorem results_cell_two {P : Program} {fn : Func} {p u : Tmp} {ty : TypeId} (h : fn.results = #[.cell p ty, .tmp u]) (tmps : Array Value) (w : World) (g : Nat) (L : List Value) (t : TypeId) (d : TypeDesc) (hp : tmps.getD p undef = .pointer (some ⟨g, 0, none⟩))
    (hb : Blk w g L t) (hu : P.underlying ty = some d) (hd : d.isRow = true) (hi : (P.info? ty).map (·.size) = some L.length) (x : Value) (hx : tmps.getD u undef = x) : (results fn tmps).run P w = .ok (.tuple #[.agg L.toArray, x]) w := by
  subst hx
  have hl := run_loadVar_row (P := P) w g t ty L.toArray (0, 0) d hb hu (by cases d <;> first | rfl | cases hd) (by simpa using hi)
  rw [results_cell_tmp h, hp]
  simp [asAddr, hl, Result.andThen]

set_option maxHeartbeats 1000000 in
theorem passLook_of (s : ByteArray) (cs : List Int) (n : Nat) (w : World) (hs : s = strOfNums cs) (hf : ∀ z ∈ cs, Fits8 z) (hl : cs.length = n) (hn : n ≤ 100000) :
    Calls Tryd.prog 12 #[.string s] w fun e w' => e = .returned (.tuple #[tokV (lookI cs), .int .u16 (lookE cs)]) ∧ Below w.heap.size w w' := by
  obtain ⟨q, hq⟩ : ∃ q, q = w.heap.size := ⟨_, rfl⟩
  have HQ : Hid (q = w.heap.size) := hq
  rw [← hq]
  by_cases hg : Good cs
  · have C := fun o => parts_good s cs n (w.alloc o) hs hf hl hn hg
    simp only [World.size_alloc, ← hq] at C
    have hk : lookI cs = tokI (lookB cs) := by unfold lookI; rw [if_pos hg]
    have he : lookE cs = 0 := by unfold lookE; rw [if_pos hg]
    rw [hk, he]
    obtain ⟨K, hK⟩ : ∃ K, K = tokI (lookB cs) := ⟨_, rfl⟩
    rw [← hK]
    have HK : Hid (K = tokI (lookB cs)) := hK
    clear hs hf hl hg hk he hK
    go_enter Tryd.func12, Tryd.ntmps12
    go_wp2_with fail
    refine (C _).mono ?_
    rintro e w1 ⟨b, off, c, rfl, hc, hb, b1⟩
    clear C
    rw [← hq]
    have HB : Hid (Blk w1 q (tokL tok0) 26 ∧ Below q w w1 ∧ 50 ≤ c ∧ BIn w1 (some ⟨b, off, none⟩) 18 (lookB cs) ∧ q < w1.heap.size) := by
      refine ⟨(Blk.new' (L := tokL tok0) hq.symm rfl).below b1 (by omega), ((Below.refl q w).alloc (by omega) _).trans (b1.mono (by omega)), hc, ?_, ?_⟩
      · have := hb.part 0 18 (by omega)
        rw [Nat.add_zero, List.drop_zero] at this
        exact this
      · have := b1.size; simp at this; omega
    clear hb b1 hc hq
    go_upto_region 4 with fail
    have T := tokenOf_of b off c (lookB cs) w1 HB.out.2.2.2.1 (by have := HB.out.2.2.1; omega)
    rw [← HK.out] at T
    go_wp2_with fail
    refine T.mono ?_
    rintro e w2 ⟨rfl, b2⟩
    clear T
    have HC : Hid (Blk w2 q (tokL tok0) 26 ∧ Below q w w2) := ⟨HB.out.1.below b2 HB.out.2.2.2.2, HB.out.2.1.trans (b2.mono (by have := HB.out.2.2.2.2; omega))⟩
    clear b2
    go_wp2_with (refine wpList_store_mid rfl 26 (.tmp 2) (.tmp 18) rfl q 0 (tokL K).toArray rfl rfl (HC.out.1.there 0 _ (by simp [tokL])) (by simp [tokL, Tryd.info_token]) (all_oneCell_toArray (tokL_one _)) ?_)
    have b3 := HC.out.1.setAll (vs := tokL K) (by rfl)
    refine bodyPost_ret (v := .tuple #[.agg (tokL K).toArray, .int .u16 0]) (results_cell_two (p := 2) (u := 3) (ty := 26) rfl _ _ q _ _ _ rfl b3 Tryd.underlying26 rfl Tryd.info_token _ rfl) rfl ⟨rfl, ?_⟩
    exact below_setCells (Nat.le_refl _) _ _ _ HC.out.2
  · have C := fun o => parts_bad s cs n (w.alloc o) hs hf hl hn hg
    simp only [World.size_alloc, ← hq] at C
    have hk : lookI cs = tok0 := by unfold lookI; rw [if_neg hg]
    have he : lookE cs = 50 := by unfold lookE; rw [if_neg hg]
    rw [hk, he]
    clear hs hf hl hg hk he
    go_enter Tryd.func12, Tryd.ntmps12
    go_wp2_with fail
    refine (C _).mono ?_
    rintro e w1 ⟨rfl, b1⟩
    clear C
    rw [← hq]
    have HB : Hid (Blk w1 q (tokL tok0) 26 ∧ Below q w w1) := ⟨(Blk.new' (L := tokL tok0) hq.symm rfl).below b1 (by omega), ((Below.refl q w).alloc (by omega) _).trans (b1.mono (by omega))⟩
    clear b1 hq
    go_wp2_with (refine wpList_store_mid rfl 26 (.tmp 2) (.tmp 15) rfl q 0 (tokL tok0).toArray rfl rfl (HB.out.1.there 0 _ (by simp [tokL])) (by simp [tokL, Tryd.info_token]) (all_oneCell_toArray (tokL_one _)) ?_)
    have b3 := HB.out.1.setAll (vs := tokL tok0) (by rfl)
    refine bodyPost_ret (v := .tuple #[.agg (tokL tok0).toArray, .int .u16 50]) (results_cell_two (p := 2) (u := 3) (ty := 26) rfl _ _ q _ _ _ rfl b3 Tryd.underlying26 rfl Tryd.info_token _ rfl) rfl ⟨rfl, ?_⟩
    exact below_setCells (Nat.le_refl _) _ _ _ HB.out.2
end Go.Proofs.YtpliokkmiijieaaDoor
