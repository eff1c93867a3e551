/- What one call of the document's Get, At, Count and All, and of SamePlaces, does. -/
import Derived.Test.YtconfkgadmjhhaaLmR
import Derived.Test.YtconfkgadmjhhaaLmC
import Derived.BigQuiet
namespace Go.Proofs.Ytconfkgadmjhhaa
open Go.RowKit
set_option linter.unusedVariables false
set_option maxRecDepth 4000

theorem LmD.list {w : World} {r : Nat} {S : List Pl} (h : LmD w r S) : ∃ a cc, Blk w r [.slice a S.length cc] 59 ∧ w.ownsRow 0 34 4 (.slice a S.length cc) S.length (plC S) := by
  obtain ⟨a, m, cc, hb, hr⟩ := h.row
  have hm : S.length = m := (own_pl hr).1
  subst hm
  exact ⟨a, cc, hb, hr⟩
theorem find_stop {α : Type} (f : α → Bool) (S : List α) (k : Nat) (y : α) (hy : S[k]? = some y) (hn : ∀ q ∈ S.take k, f q = false) (hf : f y = true) : S.find? f = some y := by
  have hk : k < S.length := (List.getElem?_eq_some_iff.1 hy).1
  have e : S = S.take k ++ y :: S.drop (k + 1) := by
    have h1 := List.take_append_drop k S
    rw [List.drop_eq_getElem_cons hk, (List.getElem?_eq_some_iff.1 hy).2] at h1
    exact h1.symm
  rw [e, List.find?_append, List.find?_eq_none.2 (fun q hq => by simp [hn q hq])]
  simp [hf]
theorem find_end {α : Type} (f : α → Bool) (S : List α) (k : Nat) (hk : S.length ≤ k) (hn : ∀ q ∈ S.take k, f q = false) : S.find? f = none := by
  rw [List.take_of_length_le hk] at hn
  exact List.find?_eq_none.2 (fun q hq => by simp [hn q hq])
theorem none_step {α : Type} (f : α → Bool) (S : List α) (k : Nat) (y : α) (hy : S[k]? = some y) (hn : ∀ q ∈ S.take k, f q = false) (hf : f y = false) : ∀ q ∈ S.take (k + 1), f q = false := by
  have hk : k < S.length := (List.getElem?_eq_some_iff.1 hy).1
  rw [List.take_succ_eq_append_getElem hk, (List.getElem?_eq_some_iff.1 hy).2]
  intro q hq
  rcases List.mem_append.1 hq with h | h
  · exact hn q h
  · have : q = y := by simpa using h
    rw [this]; exact hf
set_option maxHeartbeats 2000000 in
theorem dmGet_of (r : Nat) (S : List Pl) (n : Pr) (w : World) (h : LmD w r S) (hS : S.length ≤ 10000) :
    Calls Try.prog 13 #[.pointer (some ⟨r, 0, none⟩), .int .u32 n.1, .int .u64 n.2] w fun e w' => e = .returned (.tuple #[.agg #[.int .i64 ((getS S n).getD (0, 0)).1, .int .i64 ((getS S n).getD (0, 0)).2], .bool (getS S n).isSome]) ∧ Below w.heap.size w w' := by
  obtain ⟨a, cc, hb, hr⟩ := h.list
  have HR : Hid (Blk w r [.slice a S.length cc] 59 ∧ w.ownsRow 0 34 4 (.slice a S.length cc) S.length (plC S)) := ⟨hb, hr⟩
  clear h hb hr
  go_enter Try.func13, Try.ntmps13
  go_wp2
  go_loopw [8] (fun i wr => ∃ k : Nat, k ≤ S.length ∧ i = .int .i64 k ∧ (∀ q ∈ S.take k, (q.1 == n) = false) ∧ wr = w.alloc (.cells #[.int .i64 0, .int .i64 0] 32)) (fun i _ => S.length - (intOf i).toNat)
  case atStart => exact ⟨0, by omega, rfl, by simp, rfl⟩
  case round =>
    obtain ⟨k, hk, rfl, hno, rfl⟩ := hrel
    have bel : Below w.heap.size w (w.alloc (.cells #[.int .i64 0, .int .i64 0] 32)) := (Below.refl _ _).alloc (Nat.le_refl _) _
    have c0 := (HR.out.1.below bel HR.out.1.lt).cell 0
    simp only [List.getElem?_cons_zero] at c0
    have HN : Hid (∀ q ∈ S.take k, (q.1 == n) = false) := hno
    clear hno
    by_cases hlt : k < S.length
    · have hlt' : (k : Int) < S.length := by omega
      obtain ⟨y, hy⟩ : ∃ y, S[k]? = some y := ⟨_, List.getElem?_eq_getElem hlt⟩
      obtain ⟨g, rfl, hc⟩ := (own_pl HR.out.2).2.resolve_left (by omega)
      obtain ⟨y0, y1, y2, y3⟩ := hc k y hy
      have y0 := (bel.cell (old_block y0)).trans y0
      have y1 := (bel.cell (old_block y1)).trans y1
      have y2 := (bel.cell (old_block y2)).trans y2
      have y3 := (bel.cell (old_block y3)).trans y3
      have HY : Hid (S[k]? = some y) := hy
      clear hc bel hy
      by_cases hn : y.1 = n
      · have e1 : (y.1.1 == n.1) = true := by rw [hn]; simp
        have e2 : (y.1.2 == n.2) = true := by rw [hn]; simp
        have hgt : getS S n = some y.2 := by
          unfold getS
          rw [find_stop _ S k y HY.out HN.out (by simp [hn])]; rfl
        have HG : Hid (getS S n = some y.2) := hgt
        have H : Hid (Blk (w.alloc (.cells #[.int .i64 y.2.1, .int .i64 y.2.2] 32)) w.heap.size (prL .i64 .i64 y.2) 32 ∧ Below w.heap.size w (w.alloc (.cells #[.int .i64 y.2.1, .int .i64 y.2.2] 32))) := ⟨Blk.new' rfl rfl, (Below.refl _ _).alloc (Nat.le_refl _) _⟩
        clear hn hgt HN HY
        go_wp2
        refine bodyPost_ret (results_cell_two (p := 6) (u := 7) (ty := 32) rfl _ _ _ _ _ _ rfl H.out.1 Try.underlying32 rfl Try.info_addr _ rfl) rfl ⟨?_, H.out.2⟩
        rw [HG.out]; rfl
      · have hne : (y.1 == n) = false := by simpa using hn
        have HN2 : Hid (∀ q ∈ S.take (k + 1), (q.1 == n) = false) := none_step _ S k y HY.out HN.out hne
        by_cases ht : y.1.1 = n.1
        · have e1 : (y.1.1 == n.1) = true := by simpa using ht
          have e2 : (y.1.2 == n.2) = false := by have := pr_ne.1 hn; simp only [beq_eq_false_iff_ne]; omega
          clear ht hn hne HN HY
          go_wp2
          go_roundw
          case rel => exact ⟨k + 1, by omega, by go_num, HN2.out, trivial⟩
          case measure => simp [intOf]; omega
        · have e1 : (y.1.1 == n.1) = false := by simpa using ht
          clear ht hn hne HN HY
          go_wp2
          go_roundw
          case rel => exact ⟨k + 1, by omega, by go_num, HN2.out, trivial⟩
          case measure => simp [intOf]; omega
    · have hge : (S.length : Int) ≤ k := by omega
      have hgt : getS S n = none := by
        unfold getS
        rw [find_end _ S k (by omega) HN.out]; rfl
      have HG : Hid (getS S n = none) := hgt
      have H : Hid (Blk (w.alloc (.cells #[.int .i64 0, .int .i64 0] 32)) w.heap.size (prL .i64 .i64 (0, 0)) 32 ∧ Below w.heap.size w (w.alloc (.cells #[.int .i64 0, .int .i64 0] 32))) := ⟨Blk.new' rfl rfl, bel⟩
      clear hgt HN bel
      go_wp2
      refine bodyPost_ret (results_cell_two (p := 6) (u := 7) (ty := 32) rfl _ _ _ _ _ _ rfl H.out.1 Try.underlying32 rfl Try.info_addr _ rfl) rfl ⟨?_, H.out.2⟩
      rw [HG.out]; rfl
theorem dmCount_of (r : Nat) (S : List Pl) (t : Int) (w : World) (h : LmD w r S) (hS : S.length ≤ 10000) :
    Calls Try.prog 17 #[.pointer (some ⟨r, 0, none⟩), .int .u32 t] w fun e w' => e = .returned (.int .u64 (cntS S t : Nat)) ∧ w' = w := by
  obtain ⟨a, cc, hb, hr⟩ := h.list
  have HR : Hid (w.ownsRow 0 34 4 (.slice a S.length cc) S.length (plC S)) := hr
  have c0 := hb.cell 0
  simp only [List.getElem?_cons_zero] at c0
  clear h hb hr
  go_enter Try.func17, Try.ntmps17
  go_wp2
  go_loopw [5, 6] (fun v i wr => ∃ k : Nat, k ≤ S.length ∧ i = .int .i64 k ∧ v = .int .u64 (cntS (S.take k) t : Nat) ∧ wr = w) (fun _ i _ => S.length - (intOf i).toNat)
  case atStart => exact ⟨0, by omega, rfl, rfl, rfl⟩
  case round =>
    obtain ⟨k, hk, rfl, rfl, rfl⟩ := hrel
    have hcl : cntS (S.take k) t ≤ k := by have := cntS_le (S.take k) t; rw [List.length_take] at this; omega
    by_cases hlt : k < S.length
    · have hlt' : (k : Int) < S.length := by omega
      obtain ⟨y, hy⟩ : ∃ y, S[k]? = some y := ⟨_, List.getElem?_eq_getElem hlt⟩
      obtain ⟨g, rfl, hc⟩ := (own_pl HR.out).2.resolve_left (by omega)
      obtain ⟨y0, y1, y2, y3⟩ := hc k y hy
      have HT : Hid (cntS (S.take (k + 1)) t = cntS (S.take k) t + (if y.1.1 == t then 1 else 0)) := by
        show cntS (S.take (k + 1)) t = cntS (S.take k) t + (if y.1.1 == t then 1 else 0)
        have e : S.take (k + 1) = S.take k ++ [y] := by rw [List.take_succ_eq_append_getElem hlt]; congr 2; exact (List.getElem?_eq_some_iff.1 hy).2
        unfold cntS
        rw [e]
        exact filter_snoc _ _ _
      clear hc hy
      by_cases ht : y.1.1 = t
      · have e1 : (y.1.1 == t) = true := by simpa using ht
        clear ht
        go_wp2
        go_roundw
        case rel => exact ⟨k + 1, by omega, by go_num, by rw [HT.out, e1]; simp, trivial⟩
        case measure => simp [intOf]; omega
      · have e1 : (y.1.1 == t) = false := by simpa using ht
        clear ht
        go_wp2
        go_roundw
        case rel => exact ⟨k + 1, by omega, by go_num, by rw [HT.out, e1]; simp, trivial⟩
        case measure => simp [intOf]; omega
    · have hge : (S.length : Int) ≤ k := by omega
      have HT : Hid (cntS (S.take k) t = cntS S t) := by
        show cntS (S.take k) t = cntS S t
        rw [List.take_of_length_le (by omega)]
      go_wp2
      go_ret
      exact ⟨by rw [← HT.out]; rfl, rfl⟩
set_option maxHeartbeats 2000000 in
theorem dmAt_of (r : Nat) (S : List Pl) (s : Pr) (w : World) (h : LmD w r S) (hS : S.length ≤ 10000) :
    Calls Try.prog 15 #[.pointer (some ⟨r, 0, none⟩), .agg #[.int .i64 s.1, .int .i64 s.2]] w fun e w' => e = .returned (.tuple #[atV (atS S s) s, .bool (atS S s).isSome]) ∧ Below w.heap.size w w' := by
  obtain ⟨a, cc, hb, hr⟩ := h.list
  obtain ⟨V, hV⟩ : ∃ V, V = (w.alloc (.cells #[.int .i64 s.1, .int .i64 s.2] 32)).alloc (.cells #[.int .u32 0, .int .u64 0, .int .i64 0, .int .i64 0] 34) := ⟨_, rfl⟩
  have HR : Hid (Blk w r [.slice a S.length cc] 59 ∧ w.ownsRow 0 34 4 (.slice a S.length cc) S.length (plC S)) := ⟨hb, hr⟩
  have hA : Blk V w.heap.size (prL .i64 .i64 s) 32 := by rw [hV]; exact (Blk.new' rfl rfl).alloc _
  have hP : Blk V (w.heap.size + 1) (plL pl0) 34 := by rw [hV]; exact Blk.new' (by simp) rfl
  have bV : Below w.heap.size w V := by rw [hV]; exact ((Below.refl _ _).alloc (Nat.le_refl _) _).alloc (by simp) _
  have HV : Hid (V = (w.alloc (.cells #[.int .i64 s.1, .int .i64 s.2] 32)).alloc (.cells #[.int .u32 0, .int .u64 0, .int .i64 0, .int .i64 0] 34)) := hV
  have HB : Hid (Blk V w.heap.size (prL .i64 .i64 s) 32 ∧ Blk V (w.heap.size + 1) (plL pl0) 34 ∧ Below w.heap.size w V) := ⟨hA, hP, bV⟩
  clear h hb hr hV hA hP bV
  go_enter Try.func15, Try.ntmps15
  go_wp2
  rw [← HV.out]
  go_loopw [6] (fun i wr => ∃ k j : Nat, k ≤ S.length ∧ i = .int .i64 k ∧ (∀ q ∈ S.take k, (q.2 == s) = false) ∧ wr = V.drewN j) (fun i _ => S.length - (intOf i).toNat)
  case atStart => exact ⟨0, 0, by omega, rfl, by simp, rfl⟩
  case round =>
    obtain ⟨k, j, hk, rfl, hno, rfl⟩ := hrel
    have bel : Below w.heap.size w (V.drewN j) := below_drewN HB.out.2.2 j
    have c0 : ∀ i, (V.drewN i).cell? ⟨r, 0, none⟩ = some (.slice a S.length cc) := fun i => (HR.out.1.below (below_drewN HB.out.2.2 i) HR.out.1.lt).cell 0
    have s0 : ∀ i, (V.drewN i).cell? ⟨w.heap.size, 0, none⟩ = some (.int .i64 s.1) := fun i => HB.out.1.cell 0
    have s1 : ∀ i, (V.drewN i).cell? ⟨w.heap.size, 1, none⟩ = some (.int .i64 s.2) := fun i => HB.out.1.cell 1
    have HN : Hid (∀ q ∈ S.take k, (q.2 == s) = false) := hno
    clear hno
    by_cases hlt : k < S.length
    · have hlt' : (k : Int) < S.length := by omega
      obtain ⟨y, hy⟩ : ∃ y, S[k]? = some y := ⟨_, List.getElem?_eq_getElem hlt⟩
      obtain ⟨g, rfl, hc⟩ := (own_pl HR.out.2).2.resolve_left (by omega)
      obtain ⟨y0, y1, y2, y3⟩ := hc k y hy
      have y0 : ∀ i, (V.drewN i).cell? ⟨g, k * 4, none⟩ = some (.int .u32 y.1.1) := fun i => ((below_drewN HB.out.2.2 i).cell (old_block y0)).trans y0
      have y1 : ∀ i, (V.drewN i).cell? ⟨g, k * 4 + 1, none⟩ = some (.int .u64 y.1.2) := fun i => ((below_drewN HB.out.2.2 i).cell (old_block y1)).trans y1
      have y2 : ∀ i, (V.drewN i).cell? ⟨g, k * 4 + 2, none⟩ = some (.int .i64 y.2.1) := fun i => ((below_drewN HB.out.2.2 i).cell (old_block y2)).trans y2
      have y3 : ∀ i, (V.drewN i).cell? ⟨g, k * 4 + 3, none⟩ = some (.int .i64 y.2.2) := fun i => ((below_drewN HB.out.2.2 i).cell (old_block y3)).trans y3
      have HY : Hid (S[k]? = some y) := hy
      have hq := fun W => eqlA y.2 s W
      clear hc bel hy
      by_cases hn : y.2 = s
      · have e1 : (y.2 == s) = true := by simpa using hn
        rw [e1] at hq
        have hgt : atS S s = some y.1 := by
          unfold atS
          rw [find_stop _ S k y HY.out HN.out (by simp [hn])]; rfl
        have HG : Hid (atS S s = some y.1 ∧ y.2 = s) := ⟨hgt, hn⟩
        have p0 : ∀ i, (V.drewN i).cell? ⟨w.heap.size + 1, 0, none⟩ = some (.int .u32 0) := fun i => HB.out.2.1.cell 0
        have p1 : ∀ i, (V.drewN i).cell? ⟨w.heap.size + 1, 1, none⟩ = some (.int .u64 0) := fun i => HB.out.2.1.cell 1
        have p2 : ∀ i, (V.drewN i).cell? ⟨w.heap.size + 1, 2, none⟩ = some (.int .i64 0) := fun i => HB.out.2.1.cell 2
        have p3 : ∀ i, (V.drewN i).cell? ⟨w.heap.size + 1, 3, none⟩ = some (.int .i64 0) := fun i => HB.out.2.1.cell 3
        have f0 : ∀ i o, (V.drewN i).frozen? ⟨w.heap.size + 1, o, none⟩ = false := fun i o => HB.out.2.1.frozen o
        clear hn hgt HN HY e1
        go_wp2_with fail
        go_quiet (fail)
        try simp only [World.drewN_drewN]
        go_wp2
        refine bodyPost_ret (results_cell_two (p := 4) (u := 5) (ty := 34) rfl _ _ _ _ _ _ rfl (((((HB.out.2.1.drewN _).set 0 _).set 1 _).set 2 _).set 3 _) Try.underlying34 rfl Try.info_place _ rfl) rfl ⟨?_, ((((below_drewN HB.out.2.2 _).setCell (by simp) _).setCell (by simp) _).setCell (by simp) _).setCell (by simp) _⟩
        rw [HG.out.1]
        show _ = Ending.returned (Value.tuple #[plV (y.1, s), .bool true])
        rw [← HG.out.2]; rfl
      · have hne : (y.2 == s) = false := by simpa using hn
        rw [hne] at hq
        have HN2 : Hid (∀ q ∈ S.take (k + 1), (q.2 == s) = false) := none_step _ S k y HY.out HN.out hne
        clear hn hne HN HY
        go_wp2_with fail
        go_quiet (fail)
        try simp only [World.drewN_drewN]
        go_wp2
        go_roundw
        case rel => exact ⟨k + 1, _, by omega, by go_num, HN2.out, rfl⟩
        case measure => simp [intOf]; omega
    · have hge : (S.length : Int) ≤ k := by omega
      have hgt : atS S s = none := by
        unfold atS
        rw [find_end _ S k (by omega) HN.out]; rfl
      have HG : Hid (atS S s = none) := hgt
      have p0 : ∀ i, (V.drewN i).cell? ⟨w.heap.size + 1, 0, none⟩ = some (.int .u32 0) := fun i => HB.out.2.1.cell 0
      have p1 : ∀ i, (V.drewN i).cell? ⟨w.heap.size + 1, 1, none⟩ = some (.int .u64 0) := fun i => HB.out.2.1.cell 1
      have p2 : ∀ i, (V.drewN i).cell? ⟨w.heap.size + 1, 2, none⟩ = some (.int .i64 0) := fun i => HB.out.2.1.cell 2
      have p3 : ∀ i, (V.drewN i).cell? ⟨w.heap.size + 1, 3, none⟩ = some (.int .i64 0) := fun i => HB.out.2.1.cell 3
      have f0 : ∀ i o, (V.drewN i).frozen? ⟨w.heap.size + 1, o, none⟩ = false := fun i o => HB.out.2.1.frozen o
      clear hgt HN bel
      go_wp2
      refine bodyPost_ret (results_cell_two (p := 4) (u := 5) (ty := 34) rfl _ _ _ _ _ _ rfl (((((HB.out.2.1.drewN _).set 0 _).set 1 _).set 2 _).set 3 _) Try.underlying34 rfl Try.info_place _ rfl) rfl ⟨?_, ((((below_drewN HB.out.2.2 _).setCell (by simp) _).setCell (by simp) _).setCell (by simp) _).setCell (by simp) _⟩
      rw [HG.out]; rfl
theorem samePlaces_of (a b : Option Addr) (n c1 c2 : Nat) (L : List Pl) (w : World) (h1 : PlIn w a n L) (h2 : PlIn w b n L) (hn : n ≤ 100000) :
    Calls Try.prog 18 #[.slice a n c1, .slice b n c2] w fun e w' => e = .returned (.bool true) ∧ Below w.heap.size w w' := by
  have HP : Hid (PlIn w a n L ∧ PlIn w b n L) := ⟨h1, h2⟩
  have hl := h1.1
  clear h1 h2
  go_enter Try.func18, Try.ntmps18
  go_wp2
  go_loopw [5] (fun i wr => ∃ k j : Nat, k ≤ n ∧ i = .int .i64 k ∧ wr = w.drewN j) (fun i _ => n - (intOf i).toNat)
  case atStart => exact ⟨0, 0, by omega, rfl, rfl⟩
  case round =>
    obtain ⟨k, j, hk, rfl, rfl⟩ := hrel
    by_cases hlt : k < n
    · have hlt' : (k : Int) < n := by omega
      obtain ⟨y, hy⟩ : ∃ y, L[k]? = some y := ⟨_, List.getElem?_eq_getElem (by omega)⟩
      obtain ⟨g, rfl, hc⟩ := HP.out.1.2.resolve_left (by omega)
      obtain ⟨g', rfl, hc'⟩ := HP.out.2.2.resolve_left (by omega)
      obtain ⟨y0, y1, y2, y3⟩ := hc k y hy
      obtain ⟨z0, z1, z2, z3⟩ := hc' k y hy
      have y0 : ∀ i, (w.drewN i).cell? ⟨g, k * 4, none⟩ = some (.int .u32 y.1.1) := fun i => y0
      have y1 : ∀ i, (w.drewN i).cell? ⟨g, k * 4 + 1, none⟩ = some (.int .u64 y.1.2) := fun i => y1
      have y2 : ∀ i, (w.drewN i).cell? ⟨g, k * 4 + 2, none⟩ = some (.int .i64 y.2.1) := fun i => y2
      have y3 : ∀ i, (w.drewN i).cell? ⟨g, k * 4 + 3, none⟩ = some (.int .i64 y.2.2) := fun i => y3
      have z0 : ∀ i, (w.drewN i).cell? ⟨g', k * 4, none⟩ = some (.int .u32 y.1.1) := fun i => z0
      have z1 : ∀ i, (w.drewN i).cell? ⟨g', k * 4 + 1, none⟩ = some (.int .u64 y.1.2) := fun i => z1
      have z2 : ∀ i, (w.drewN i).cell? ⟨g', k * 4 + 2, none⟩ = some (.int .i64 y.2.1) := fun i => z2
      have z3 : ∀ i, (w.drewN i).cell? ⟨g', k * 4 + 3, none⟩ = some (.int .i64 y.2.2) := fun i => z3
      have hq := fun W => neqP y y W
      simp only [bne_self_eq_false] at hq
      clear hc hc' hy
      go_wp2_with fail
      go_quiet (fail)
      try simp only [World.drewN_drewN]
      go_wp2
      go_roundw
      case rel => exact ⟨k + 1, _, by omega, by go_num, rfl⟩
      case measure => simp [intOf]; omega
    · have hge : (n : Int) ≤ k := by omega
      go_wp2
      go_ret
      exact ⟨rfl, below_drewN (Below.refl _ _) _⟩
end Go.Proofs.Ytconfkgadmjhhaa
