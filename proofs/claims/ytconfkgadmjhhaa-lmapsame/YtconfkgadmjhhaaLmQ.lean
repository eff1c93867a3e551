/- What one call of the document's Put does. -/
import Derived.Test.YtconfkgadmjhhaaLmR
namespace Go.Proofs.Ytconfkgadmjhhaa
open Go.RowKit
set_option linter.unusedVariables false
set_option maxRecDepth 4000

theorem putAll_step (x : Pl) (S : List Pl) (k : Nat) (y : Pl) (hy : S[k]? = some y) : putAll x (S.take (k + 1)) = putStep x (putAll x (S.take k)) y := by
  have hk : k < S.length := (List.getElem?_eq_some_iff.1 hy).1
  have e : S.take (k + 1) = S.take k ++ [y] := by rw [List.take_succ_eq_append_getElem hk]; congr 2; exact (List.getElem?_eq_some_iff.1 hy).2
  unfold putAll
  rw [e, List.foldl_append]; rfl
theorem putAll_len (x : Pl) : ∀ (S : List Pl) (s : List Pl × Bool), (S.foldl (putStep x) s).1.length ≤ s.1.length + 2 * S.length
  | [], s => by simp
  | y :: r, s => by
    have := putAll_len x r (putStep x s y)
    have h2 : (putStep x s y).1.length ≤ s.1.length + 2 := by
      unfold putStep
      simp only [List.length_append]
      have a1 : (if (!s.2 && (ltP x.1 y.1 || y.1 == x.1)) = true then [x] else []).length ≤ 1 := by split <;> simp
      have a2 : (if (!(y.1 == x.1) && (y.2 != x.2)) = true then [y] else []).length ≤ 1 := by split <;> simp
      omega
    rw [List.foldl_cons, List.length_cons]
    omega
def plA (x : Pl) : Array Value := #[.int .u32 x.1.1, .int .u64 x.1.2, .int .i64 x.2.1, .int .i64 x.2.2]
/-- What stands in the round: the place that is put, what was gathered. -/
structure PutR (w : World) (x : Pl) (b : Option Addr) (dd : Nat) (o : List Pl) (wr : World) : Prop where
  bx : Blk wr w.heap.size (plL x) 34
  row : wr.ownsRow (w.heap.size + 1) 34 4 (.slice b o.length dd) o.length (plC o)
  bel : Below w.heap.size w wr
theorem PutR.below {w : World} {x : Pl} {b : Option Addr} {dd : Nat} {o : List Pl} {wr wr' : World} (h : PutR w x b dd o wr) (hb : Below wr.heap.size wr wr') : PutR w x b dd o wr' :=
  ⟨h.bx.below hb h.bx.lt, (below_out Non hb).own h.row (fun _ _ e => e), below_on h.bel hb⟩
theorem PutR.size {w : World} {x : Pl} {b : Option Addr} {dd : Nat} {o : List Pl} {wr : World} (h : PutR w x b dd o wr) : w.heap.size + 1 ≤ wr.heap.size := h.bx.lt
/-- One more is gathered. -/
theorem PutR.app {w : World} {x : Pl} {b : Option Addr} {dd : Nat} {o : List Pl} {wr : World} (h : PutR w x b dd o wr) (y : Pl) (hn : o.length ≤ 100000) :
    ∃ g cc W, (Builtin.append_ #[43, 43] 43 #[.slice b o.length dd, .slice (some ⟨wr.heap.size, 0, none⟩) 1 1]).run Try.prog (wr.alloc (.cells #[.int .u32 y.1.1, .int .u64 y.1.2, .int .i64 y.2.1, .int .i64 y.2.2] 34)) = .ok (.slice (some ⟨g, 0, none⟩) (o.length + 1) cc) W ∧
      PutR w x (some ⟨g, 0, none⟩) cc (o ++ [y]) W ∧ Out (fun k => w.heap.size + 1 ≤ k ∧ (Value.slice b o.length dd).ownBlock = some k) wr W := by
  obtain ⟨g, cc, W, h1, h2, h3⟩ := app_place h.row y hn h.size wr.heap.size rfl
  have ho : Out (fun k => w.heap.size + 1 ≤ k ∧ (Value.slice b o.length dd).ownBlock = some k) wr W := ⟨h3.os, h3.tape, h3.output, h3.size, fun k hk hn' => h3.block k hk (fun e => hn' ⟨(h.row.lt k e.symm).1, e.symm⟩)⟩
  refine ⟨g, cc, W, h1, ⟨ho.blk h.bx (fun e => by omega), by simpa using h2, ?_⟩, ho⟩
  exact ⟨h3.os.trans h.bel.os, h3.tape.trans h.bel.tape, h3.output.trans h.bel.output, Nat.le_trans h.bel.size ho.size, fun j hj => (ho.block j (Nat.lt_of_lt_of_le hj h.bel.size) (fun e => by omega)).trans (h.bel.block j hj)⟩
theorem Blk.four {w : World} {g : Nat} {x : Pl} (h : Blk w g (plL x) 34) : w.cell? ⟨g, 0, none⟩ = some (.int .u32 x.1.1) ∧ w.cell? ⟨g, 1, none⟩ = some (.int .u64 x.1.2) ∧ w.cell? ⟨g, 2, none⟩ = some (.int .i64 x.2.1) ∧ w.cell? ⟨g, 3, none⟩ = some (.int .i64 x.2.2) :=
  ⟨h.cell 0, h.cell 1, h.cell 2, h.cell 3⟩
/-- What was gathered is kept. -/
theorem PutR.done {w : World} {x : Pl} {b : Option Addr} {dd r : Nat} {o : List Pl} {wr : World} {v : Value} (h : PutR w x b dd o wr) (hb : Blk w r [v] 59) (hg : Good o) : LmD (wr.setCell ⟨r, 0, none⟩ (.slice b o.length dd)) r o ∧ Out (fun k => k = r) w (wr.setCell ⟨r, 0, none⟩ (.slice b o.length dd)) := by
  have hbr := hb.below h.bel hb.lt
  have hne := own_ne hbr h.row (by decide)
  refine ⟨⟨⟨b, _, dd, hbr.set 0 _, ?_⟩, hg⟩, (below_out (fun k => k = r) h.bel).setCell (.inl rfl) _⟩
  have ho : Out (fun k => k = r) wr (wr.setCell ⟨r, 0, none⟩ (.slice b o.length dd)) := (Out.refl (fun k => k = r) wr).setCell (p := ⟨r, 0, none⟩) (.inl rfl) _
  exact ho.own (own_zero h.row) (fun g hg e => hne (by rw [hg, e]))
set_option maxHeartbeats 8000000 in
theorem dmPut_of (r : Nat) (S : List Pl) (x : Pl) (w : World) (h : LmD w r S) (hx : FitsP x) (hS : S.length ≤ 10000) :
    Calls Try.prog 26 #[.pointer (some ⟨r, 0, none⟩), .agg #[.int .u32 x.1.1, .int .u64 x.1.2, .int .i64 x.2.1, .int .i64 x.2.2]] w fun e w' => e = .returned (.tuple #[]) ∧ LmD w' r (putS S x) ∧ Out (fun k => k = r) w w' := by
  obtain ⟨a, m, cc, hb, hr⟩ := h.row
  have hm : S.length = m := (own_pl hr).1
  subst hm
  have HG : Hid (Good S ∧ FitsP x) := ⟨h.good, hx⟩
  have HR : Hid (Blk w r [.slice a S.length cc] 59 ∧ w.ownsRow 0 34 4 (.slice a S.length cc) S.length (plC S)) := ⟨hb, hr⟩
  clear h hb hr hx
  go_enter Try.func26, Try.ntmps26
  go_wp2
  go_loopw [4, 5, 6, 7, 8, 9] (fun v d i _ _ _ wr => ∃ (k : Nat) (b : Option Addr) (dd : Nat) (o : List Pl) (d' : Bool), k ≤ S.length ∧ i = .int .i64 k ∧ d = .bool d' ∧ v = .slice b o.length dd ∧ PutR w x b dd o wr ∧ putAll x (S.take k) = (o, d')) (fun _ _ i _ _ _ _ => S.length - (intOf i).toNat)
  case atStart => exact ⟨0, none, 0, [], false, by omega, rfl, rfl, rfl, ⟨Blk.new' rfl rfl, ⟨rfl, .inl ⟨rfl, rfl⟩⟩, (Below.refl _ _).alloc (Nat.le_refl _) _⟩, rfl⟩
  case round =>
    obtain ⟨k, b, dd, o, d, hk, rfl, rfl, rfl, hP, hod⟩ := hrel
    have c0 := (HR.out.1.below hP.bel HR.out.1.lt).cell 0
    have c0' := fun o => (HR.out.1.below (hP.bel.alloc hP.bel.size o) HR.out.1.lt).cell 0
    simp only [List.getElem?_cons_zero] at c0 c0'
    have hol : o.length ≤ 2 * k := by
      have := putAll_len x (S.take k) ([], false)
      rw [List.length_take] at this
      unfold putAll at hod
      rw [hod] at this
      simp at this
      omega
    by_cases hlt : k < S.length
    · have hlt' : (k : Int) < S.length := by omega
      obtain ⟨y, hy⟩ : ∃ y, S[k]? = some y := ⟨_, List.getElem?_eq_getElem hlt⟩
      have HST : Hid (putAll x (S.take (k + 1)) = putStep x (o, d) y) := by rw [← hod]; exact putAll_step x S k y hy
      obtain ⟨g, rfl, hc⟩ := (own_pl HR.out.2).2.resolve_left (by omega)
      obtain ⟨y0, y1, y2, y3⟩ := hc k y hy
      have y0 := (hP.bel.cell (old_block y0)).trans y0
      have y1 := (hP.bel.cell (old_block y1)).trans y1
      have y2 := (hP.bel.cell (old_block y2)).trans y2
      have y3 := (hP.bel.cell (old_block y3)).trans y3
      have HY : Hid (Blk (wr.alloc (.cells #[.int .u32 y.1.1, .int .u64 y.1.2, .int .i64 y.2.1, .int .i64 y.2.2] 34)) wr.heap.size (plL y) 34) := Blk.new' rfl rfl
      have HP : Hid (PutR w x b dd o (wr.alloc (.cells #[.int .u32 y.1.1, .int .u64 y.1.2, .int .i64 y.2.1, .int .i64 y.2.2] 34))) := hP.below ((Below.refl _ _).alloc (Nat.le_refl _) _)
      have HQ : Hid (PutR w x b dd o wr) := hP
      obtain ⟨x0, x1, x2, x3⟩ := HP.out.bx.four
      have C := dless_of x y (wr.alloc (.cells #[.int .u32 y.1.1, .int .u64 y.1.2, .int .i64 y.2.1, .int .i64 y.2.2] 34))
      clear hc hP hy
      clear hod
      cases d with
      | false =>
        by_cases hsm : y.1 = x.1
        · have e1 : (y.1.1 == x.1.1) = true := by rw [hsm]; simp
          have e2 : (y.1.2 == x.1.2) = true := by rw [hsm]; simp
          have hl : ltP x.1 y.1 = false := by rw [hsm]; exact ltP_irrefl _
          rw [hl] at C
          have HL : Hid (ltP x.1 y.1 = false) := hl
          have HE : Hid ((y.1 == x.1) = true) := by show (y.1 == x.1) = true; simp [hsm]
          have HT : Hid (True) := trivial
          clear hsm hl
          go_wp2_with fail
          refine C.mono ?_
          rintro e w5 ⟨rfl, hb5⟩
          have hP5 := HP.out.below hb5
          have hY5 := HY.out.below hb5 HY.out.lt
          obtain ⟨x0, x1, x2, x3⟩ := hP5.bx.four
          obtain ⟨y0, y1, y2, y3⟩ := hY5.four
          obtain ⟨g1, d1, W1, hr1, hP6, ho1⟩ := hP5.app x (by omega)
          have hY6 := ho1.blk hY5 (fun e => by have := (HQ.out.row.lt _ e.2).2; omega)
          obtain ⟨z0, z1, z2, z3⟩ := hP6.bx.four
          obtain ⟨v0, v1, v2, v3⟩ := hY6.four
          have HF : Hid (PutR w x (some ⟨g1, 0, none⟩) d1 (o ++ [x]) W1) := hP6
          clear hP5 hY5 hb5 hP6 hY6 ho1
          go_wp2_with (first | (at_builtin; refine wpList_append_run rfl _ _ 43 43 rfl _ _ rfl rfl _ _ hr1 ?_; clear hr1) | go_in)
          go_roundw
          case rel =>
            have hs : putAll x (S.take (k + 1)) = ((o ++ [x]), true) := by rw [HST.out]; simp [putStep, HL.out, HE.out]
            exact ⟨k + 1, (some ⟨g1, 0, none⟩), d1, (o ++ [x]), true, by omega, by go_num, rfl, by simp, HF.out, hs⟩
          case measure => simp [intOf]; omega
        · have hne := pr_ne.1 hsm
          have HE : Hid ((y.1 == x.1) = false) := by show (y.1 == x.1) = false; simpa using hsm
          by_cases ht : y.1.1 = x.1.1
          · have e1 : (y.1.1 == x.1.1) = true := by rw [ht]; simp
            have e2 : (y.1.2 == x.1.2) = false := by simp only [beq_eq_false_iff_ne]; omega
            clear ht hsm hne
            cases hl : ltP x.1 y.1 with
            | false =>
              rw [hl] at C
              have HL : Hid (ltP x.1 y.1 = false) := hl
              clear hl
              by_cases hat : y.2 = x.2
              · have hab : (y.2 != x.2) = false := by simp [hat]
                have hq := fun W => neqA y.2 x.2 W
                rw [hab] at hq
                have HT : Hid ((y.2 != x.2) = false) := hab
                clear hab
                clear hat
                go_wp2_with fail
                refine C.mono ?_
                rintro e w5 ⟨rfl, hb5⟩
                have hP5 := HP.out.below hb5
                have hY5 := HY.out.below hb5 HY.out.lt
                obtain ⟨x0, x1, x2, x3⟩ := hP5.bx.four
                obtain ⟨y0, y1, y2, y3⟩ := hY5.four
                have HF : Hid (PutR w x b dd o w5) := hP5
                clear hP5 hY5 hb5
                go_wp2
                go_roundw
                case rel =>
                  have hs : putAll x (S.take (k + 1)) = (o, false) := by rw [HST.out]; simp [putStep, HL.out, HE.out, HT.out]
                  exact ⟨k + 1, b, dd, o, false, by omega, by go_num, rfl, by simp, HF.out, hs⟩
                case measure => simp [intOf]; omega
              · have hab : (y.2 != x.2) = true := by simpa using hat
                have hq := fun W => neqA y.2 x.2 W
                rw [hab] at hq
                have HT : Hid ((y.2 != x.2) = true) := hab
                clear hab
                clear hat
                go_wp2_with fail
                refine C.mono ?_
                rintro e w5 ⟨rfl, hb5⟩
                have hP5 := HP.out.below hb5
                have hY5 := HY.out.below hb5 HY.out.lt
                obtain ⟨x0, x1, x2, x3⟩ := hP5.bx.four
                obtain ⟨y0, y1, y2, y3⟩ := hY5.four
                obtain ⟨g2, d2, W2, hr2, hP7, ho2⟩ := hP5.app y (by omega)
                have HF : Hid (PutR w x (some ⟨g2, 0, none⟩) d2 (o ++ [y]) W2) := hP7
                clear hP5 hY5 hb5 hP7 ho2
                go_wp2_with (first | (at_builtin; refine wpList_append_run rfl _ _ 43 43 rfl _ _ rfl rfl _ _ hr2 ?_; clear hr2) | go_in)
                go_roundw
                case rel =>
                  have hs : putAll x (S.take (k + 1)) = ((o ++ [y]), false) := by rw [HST.out]; simp [putStep, HL.out, HE.out, HT.out]
                  exact ⟨k + 1, (some ⟨g2, 0, none⟩), d2, (o ++ [y]), false, by omega, by go_num, rfl, by simp, HF.out, hs⟩
                case measure => simp [intOf]; omega
            | true =>
              rw [hl] at C
              have HL : Hid (ltP x.1 y.1 = true) := hl
              clear hl
              by_cases hat : y.2 = x.2
              · have hab : (y.2 != x.2) = false := by simp [hat]
                have hq := fun W => neqA y.2 x.2 W
                rw [hab] at hq
                have HT : Hid ((y.2 != x.2) = false) := hab
                clear hab
                clear hat
                go_wp2_with fail
                refine C.mono ?_
                rintro e w5 ⟨rfl, hb5⟩
                have hP5 := HP.out.below hb5
                have hY5 := HY.out.below hb5 HY.out.lt
                obtain ⟨x0, x1, x2, x3⟩ := hP5.bx.four
                obtain ⟨y0, y1, y2, y3⟩ := hY5.four
                obtain ⟨g1, d1, W1, hr1, hP6, ho1⟩ := hP5.app x (by omega)
                have hY6 := ho1.blk hY5 (fun e => by have := (HQ.out.row.lt _ e.2).2; omega)
                obtain ⟨z0, z1, z2, z3⟩ := hP6.bx.four
                obtain ⟨v0, v1, v2, v3⟩ := hY6.four
                have HF : Hid (PutR w x (some ⟨g1, 0, none⟩) d1 (o ++ [x]) W1) := hP6
                clear hP5 hY5 hb5 hP6 hY6 ho1
                go_wp2_with (first | (at_builtin; refine wpList_append_run rfl _ _ 43 43 rfl _ _ rfl rfl _ _ hr1 ?_; clear hr1) | go_in)
                go_roundw
                case rel =>
                  have hs : putAll x (S.take (k + 1)) = ((o ++ [x]), true) := by rw [HST.out]; simp [putStep, HL.out, HE.out, HT.out]
                  exact ⟨k + 1, (some ⟨g1, 0, none⟩), d1, (o ++ [x]), true, by omega, by go_num, rfl, by simp, HF.out, hs⟩
                case measure => simp [intOf]; omega
              · have hab : (y.2 != x.2) = true := by simpa using hat
                have hq := fun W => neqA y.2 x.2 W
                rw [hab] at hq
                have HT : Hid ((y.2 != x.2) = true) := hab
                clear hab
                clear hat
                go_wp2_with fail
                refine C.mono ?_
                rintro e w5 ⟨rfl, hb5⟩
                have hP5 := HP.out.below hb5
                have hY5 := HY.out.below hb5 HY.out.lt
                obtain ⟨x0, x1, x2, x3⟩ := hP5.bx.four
                obtain ⟨y0, y1, y2, y3⟩ := hY5.four
                obtain ⟨g1, d1, W1, hr1, hP6, ho1⟩ := hP5.app x (by omega)
                have hY6 := ho1.blk hY5 (fun e => by have := (HQ.out.row.lt _ e.2).2; omega)
                obtain ⟨z0, z1, z2, z3⟩ := hP6.bx.four
                obtain ⟨v0, v1, v2, v3⟩ := hY6.four
                obtain ⟨g2, d2, W2, hr2, hP7, ho2⟩ := hP6.app y (by simp; omega)
                simp only [List.length_append, List.length_cons, List.length_nil, Nat.zero_add] at hr2
                have HF : Hid (PutR w x (some ⟨g2, 0, none⟩) d2 (o ++ [x] ++ [y]) W2) := hP7
                clear hP5 hY5 hb5 hP6 hY6 ho1 hP7 ho2
                go_wp2_with (first | (at_builtin; refine wpList_append_run rfl _ _ 43 43 rfl _ _ rfl rfl _ _ hr1 ?_; clear hr1) | (at_builtin; refine wpList_append_run rfl _ _ 43 43 rfl _ _ rfl rfl _ _ hr2 ?_; clear hr2) | go_in)
                go_roundw
                case rel =>
                  have hs : putAll x (S.take (k + 1)) = ((o ++ [x] ++ [y]), true) := by rw [HST.out]; simp [putStep, HL.out, HE.out, HT.out]
                  exact ⟨k + 1, (some ⟨g2, 0, none⟩), d2, (o ++ [x] ++ [y]), true, by omega, by go_num, rfl, by simp, HF.out, hs⟩
                case measure => simp [intOf]; omega
          · have e1 : (y.1.1 == x.1.1) = false := by simpa using ht
            clear ht hsm hne
            cases hl : ltP x.1 y.1 with
            | false =>
              rw [hl] at C
              have HL : Hid (ltP x.1 y.1 = false) := hl
              clear hl
              by_cases hat : y.2 = x.2
              · have hab : (y.2 != x.2) = false := by simp [hat]
                have hq := fun W => neqA y.2 x.2 W
                rw [hab] at hq
                have HT : Hid ((y.2 != x.2) = false) := hab
                clear hab
                clear hat
                go_wp2_with fail
                refine C.mono ?_
                rintro e w5 ⟨rfl, hb5⟩
                have hP5 := HP.out.below hb5
                have hY5 := HY.out.below hb5 HY.out.lt
                obtain ⟨x0, x1, x2, x3⟩ := hP5.bx.four
                obtain ⟨y0, y1, y2, y3⟩ := hY5.four
                have HF : Hid (PutR w x b dd o w5) := hP5
                clear hP5 hY5 hb5
                go_wp2
                go_roundw
                case rel =>
                  have hs : putAll x (S.take (k + 1)) = (o, false) := by rw [HST.out]; simp [putStep, HL.out, HE.out, HT.out]
                  exact ⟨k + 1, b, dd, o, false, by omega, by go_num, rfl, by simp, HF.out, hs⟩
                case measure => simp [intOf]; omega
              · have hab : (y.2 != x.2) = true := by simpa using hat
                have hq := fun W => neqA y.2 x.2 W
                rw [hab] at hq
                have HT : Hid ((y.2 != x.2) = true) := hab
                clear hab
                clear hat
                go_wp2_with fail
                refine C.mono ?_
                rintro e w5 ⟨rfl, hb5⟩
                have hP5 := HP.out.below hb5
                have hY5 := HY.out.below hb5 HY.out.lt
                obtain ⟨x0, x1, x2, x3⟩ := hP5.bx.four
                obtain ⟨y0, y1, y2, y3⟩ := hY5.four
                obtain ⟨g2, d2, W2, hr2, hP7, ho2⟩ := hP5.app y (by omega)
                have HF : Hid (PutR w x (some ⟨g2, 0, none⟩) d2 (o ++ [y]) W2) := hP7
                clear hP5 hY5 hb5 hP7 ho2
                go_wp2_with (first | (at_builtin; refine wpList_append_run rfl _ _ 43 43 rfl _ _ rfl rfl _ _ hr2 ?_; clear hr2) | go_in)
                go_roundw
                case rel =>
                  have hs : putAll x (S.take (k + 1)) = ((o ++ [y]), false) := by rw [HST.out]; simp [putStep, HL.out, HE.out, HT.out]
                  exact ⟨k + 1, (some ⟨g2, 0, none⟩), d2, (o ++ [y]), false, by omega, by go_num, rfl, by simp, HF.out, hs⟩
                case measure => simp [intOf]; omega
            | true =>
              rw [hl] at C
              have HL : Hid (ltP x.1 y.1 = true) := hl
              clear hl
              by_cases hat : y.2 = x.2
              · have hab : (y.2 != x.2) = false := by simp [hat]
                have hq := fun W => neqA y.2 x.2 W
                rw [hab] at hq
                have HT : Hid ((y.2 != x.2) = false) := hab
                clear hab
                clear hat
                go_wp2_with fail
                refine C.mono ?_
                rintro e w5 ⟨rfl, hb5⟩
                have hP5 := HP.out.below hb5
                have hY5 := HY.out.below hb5 HY.out.lt
                obtain ⟨x0, x1, x2, x3⟩ := hP5.bx.four
                obtain ⟨y0, y1, y2, y3⟩ := hY5.four
                obtain ⟨g1, d1, W1, hr1, hP6, ho1⟩ := hP5.app x (by omega)
                have hY6 := ho1.blk hY5 (fun e => by have := (HQ.out.row.lt _ e.2).2; omega)
                obtain ⟨z0, z1, z2, z3⟩ := hP6.bx.four
                obtain ⟨v0, v1, v2, v3⟩ := hY6.four
                have HF : Hid (PutR w x (some ⟨g1, 0, none⟩) d1 (o ++ [x]) W1) := hP6
                clear hP5 hY5 hb5 hP6 hY6 ho1
                go_wp2_with (first | (at_builtin; refine wpList_append_run rfl _ _ 43 43 rfl _ _ rfl rfl _ _ hr1 ?_; clear hr1) | go_in)
                go_roundw
                case rel =>
                  have hs : putAll x (S.take (k + 1)) = ((o ++ [x]), true) := by rw [HST.out]; simp [putStep, HL.out, HE.out, HT.out]
                  exact ⟨k + 1, (some ⟨g1, 0, none⟩), d1, (o ++ [x]), true, by omega, by go_num, rfl, by simp, HF.out, hs⟩
                case measure => simp [intOf]; omega
              · have hab : (y.2 != x.2) = true := by simpa using hat
                have hq := fun W => neqA y.2 x.2 W
                rw [hab] at hq
                have HT : Hid ((y.2 != x.2) = true) := hab
                clear hab
                clear hat
                go_wp2_with fail
                refine C.mono ?_
                rintro e w5 ⟨rfl, hb5⟩
                have hP5 := HP.out.below hb5
                have hY5 := HY.out.below hb5 HY.out.lt
                obtain ⟨x0, x1, x2, x3⟩ := hP5.bx.four
                obtain ⟨y0, y1, y2, y3⟩ := hY5.four
                obtain ⟨g1, d1, W1, hr1, hP6, ho1⟩ := hP5.app x (by omega)
                have hY6 := ho1.blk hY5 (fun e => by have := (HQ.out.row.lt _ e.2).2; omega)
                obtain ⟨z0, z1, z2, z3⟩ := hP6.bx.four
                obtain ⟨v0, v1, v2, v3⟩ := hY6.four
                obtain ⟨g2, d2, W2, hr2, hP7, ho2⟩ := hP6.app y (by simp; omega)
                simp only [List.length_append, List.length_cons, List.length_nil, Nat.zero_add] at hr2
                have HF : Hid (PutR w x (some ⟨g2, 0, none⟩) d2 (o ++ [x] ++ [y]) W2) := hP7
                clear hP5 hY5 hb5 hP6 hY6 ho1 hP7 ho2
                go_wp2_with (first | (at_builtin; refine wpList_append_run rfl _ _ 43 43 rfl _ _ rfl rfl _ _ hr1 ?_; clear hr1) | (at_builtin; refine wpList_append_run rfl _ _ 43 43 rfl _ _ rfl rfl _ _ hr2 ?_; clear hr2) | go_in)
                go_roundw
                case rel =>
                  have hs : putAll x (S.take (k + 1)) = ((o ++ [x] ++ [y]), true) := by rw [HST.out]; simp [putStep, HL.out, HE.out, HT.out]
                  exact ⟨k + 1, (some ⟨g2, 0, none⟩), d2, (o ++ [x] ++ [y]), true, by omega, by go_num, rfl, by simp, HF.out, hs⟩
                case measure => simp [intOf]; omega
      | true =>
        by_cases hsm : y.1 = x.1
        · have e1 : (y.1.1 == x.1.1) = true := by rw [hsm]; simp
          have e2 : (y.1.2 == x.1.2) = true := by rw [hsm]; simp
          have hl : ltP x.1 y.1 = false := by rw [hsm]; exact ltP_irrefl _
          rw [hl] at C
          have HL : Hid (ltP x.1 y.1 = false) := hl
          have HE : Hid ((y.1 == x.1) = true) := by show (y.1 == x.1) = true; simp [hsm]
          have HT : Hid (True) := trivial
          clear hsm hl
          go_wp2_with fail
          refine C.mono ?_
          rintro e w5 ⟨rfl, hb5⟩
          have hP5 := HP.out.below hb5
          have hY5 := HY.out.below hb5 HY.out.lt
          obtain ⟨x0, x1, x2, x3⟩ := hP5.bx.four
          obtain ⟨y0, y1, y2, y3⟩ := hY5.four
          have HF : Hid (PutR w x b dd o w5) := hP5
          clear hP5 hY5 hb5
          go_wp2
          go_roundw
          case rel =>
            have hs : putAll x (S.take (k + 1)) = (o, true) := by rw [HST.out]; simp [putStep, HL.out, HE.out]
            exact ⟨k + 1, b, dd, o, true, by omega, by go_num, rfl, by simp, HF.out, hs⟩
          case measure => simp [intOf]; omega
        · have hne := pr_ne.1 hsm
          have HE : Hid ((y.1 == x.1) = false) := by show (y.1 == x.1) = false; simpa using hsm
          by_cases ht : y.1.1 = x.1.1
          · have e1 : (y.1.1 == x.1.1) = true := by rw [ht]; simp
            have e2 : (y.1.2 == x.1.2) = false := by simp only [beq_eq_false_iff_ne]; omega
            clear ht hsm hne
            cases hl : ltP x.1 y.1 with
            | false =>
              rw [hl] at C
              have HL : Hid (ltP x.1 y.1 = false) := hl
              clear hl
              by_cases hat : y.2 = x.2
              · have hab : (y.2 != x.2) = false := by simp [hat]
                have hq := fun W => neqA y.2 x.2 W
                rw [hab] at hq
                have HT : Hid ((y.2 != x.2) = false) := hab
                clear hab
                clear hat
                go_wp2_with fail
                refine C.mono ?_
                rintro e w5 ⟨rfl, hb5⟩
                have hP5 := HP.out.below hb5
                have hY5 := HY.out.below hb5 HY.out.lt
                obtain ⟨x0, x1, x2, x3⟩ := hP5.bx.four
                obtain ⟨y0, y1, y2, y3⟩ := hY5.four
                have HF : Hid (PutR w x b dd o w5) := hP5
                clear hP5 hY5 hb5
                go_wp2
                go_roundw
                case rel =>
                  have hs : putAll x (S.take (k + 1)) = (o, true) := by rw [HST.out]; simp [putStep, HE.out, HT.out]
                  exact ⟨k + 1, b, dd, o, true, by omega, by go_num, rfl, by simp, HF.out, hs⟩
                case measure => simp [intOf]; omega
              · have hab : (y.2 != x.2) = true := by simpa using hat
                have hq := fun W => neqA y.2 x.2 W
                rw [hab] at hq
                have HT : Hid ((y.2 != x.2) = true) := hab
                clear hab
                clear hat
                go_wp2_with fail
                refine C.mono ?_
                rintro e w5 ⟨rfl, hb5⟩
                have hP5 := HP.out.below hb5
                have hY5 := HY.out.below hb5 HY.out.lt
                obtain ⟨x0, x1, x2, x3⟩ := hP5.bx.four
                obtain ⟨y0, y1, y2, y3⟩ := hY5.four
                obtain ⟨g2, d2, W2, hr2, hP7, ho2⟩ := hP5.app y (by omega)
                have HF : Hid (PutR w x (some ⟨g2, 0, none⟩) d2 (o ++ [y]) W2) := hP7
                clear hP5 hY5 hb5 hP7 ho2
                go_wp2_with (first | (at_builtin; refine wpList_append_run rfl _ _ 43 43 rfl _ _ rfl rfl _ _ hr2 ?_; clear hr2) | go_in)
                go_roundw
                case rel =>
                  have hs : putAll x (S.take (k + 1)) = ((o ++ [y]), true) := by rw [HST.out]; simp [putStep, HE.out, HT.out]
                  exact ⟨k + 1, (some ⟨g2, 0, none⟩), d2, (o ++ [y]), true, by omega, by go_num, rfl, by simp, HF.out, hs⟩
                case measure => simp [intOf]; omega
            | true =>
              rw [hl] at C
              have HL : Hid (ltP x.1 y.1 = true) := hl
              clear hl
              by_cases hat : y.2 = x.2
              · have hab : (y.2 != x.2) = false := by simp [hat]
                have hq := fun W => neqA y.2 x.2 W
                rw [hab] at hq
                have HT : Hid ((y.2 != x.2) = false) := hab
                clear hab
                clear hat
                go_wp2_with fail
                refine C.mono ?_
                rintro e w5 ⟨rfl, hb5⟩
                have hP5 := HP.out.below hb5
                have hY5 := HY.out.below hb5 HY.out.lt
                obtain ⟨x0, x1, x2, x3⟩ := hP5.bx.four
                obtain ⟨y0, y1, y2, y3⟩ := hY5.four
                have HF : Hid (PutR w x b dd o w5) := hP5
                clear hP5 hY5 hb5
                go_wp2
                go_roundw
                case rel =>
                  have hs : putAll x (S.take (k + 1)) = (o, true) := by rw [HST.out]; simp [putStep, HE.out, HT.out]
                  exact ⟨k + 1, b, dd, o, true, by omega, by go_num, rfl, by simp, HF.out, hs⟩
                case measure => simp [intOf]; omega
              · have hab : (y.2 != x.2) = true := by simpa using hat
                have hq := fun W => neqA y.2 x.2 W
                rw [hab] at hq
                have HT : Hid ((y.2 != x.2) = true) := hab
                clear hab
                clear hat
                go_wp2_with fail
                refine C.mono ?_
                rintro e w5 ⟨rfl, hb5⟩
                have hP5 := HP.out.below hb5
                have hY5 := HY.out.below hb5 HY.out.lt
                obtain ⟨x0, x1, x2, x3⟩ := hP5.bx.four
                obtain ⟨y0, y1, y2, y3⟩ := hY5.four
                obtain ⟨g2, d2, W2, hr2, hP7, ho2⟩ := hP5.app y (by omega)
                have HF : Hid (PutR w x (some ⟨g2, 0, none⟩) d2 (o ++ [y]) W2) := hP7
                clear hP5 hY5 hb5 hP7 ho2
                go_wp2_with (first | (at_builtin; refine wpList_append_run rfl _ _ 43 43 rfl _ _ rfl rfl _ _ hr2 ?_; clear hr2) | go_in)
                go_roundw
                case rel =>
                  have hs : putAll x (S.take (k + 1)) = ((o ++ [y]), true) := by rw [HST.out]; simp [putStep, HE.out, HT.out]
                  exact ⟨k + 1, (some ⟨g2, 0, none⟩), d2, (o ++ [y]), true, by omega, by go_num, rfl, by simp, HF.out, hs⟩
                case measure => simp [intOf]; omega
          · have e1 : (y.1.1 == x.1.1) = false := by simpa using ht
            clear ht hsm hne
            cases hl : ltP x.1 y.1 with
            | false =>
              rw [hl] at C
              have HL : Hid (ltP x.1 y.1 = false) := hl
              clear hl
              by_cases hat : y.2 = x.2
              · have hab : (y.2 != x.2) = false := by simp [hat]
                have hq := fun W => neqA y.2 x.2 W
                rw [hab] at hq
                have HT : Hid ((y.2 != x.2) = false) := hab
                clear hab
                clear hat
                go_wp2_with fail
                refine C.mono ?_
                rintro e w5 ⟨rfl, hb5⟩
                have hP5 := HP.out.below hb5
                have hY5 := HY.out.below hb5 HY.out.lt
                obtain ⟨x0, x1, x2, x3⟩ := hP5.bx.four
                obtain ⟨y0, y1, y2, y3⟩ := hY5.four
                have HF : Hid (PutR w x b dd o w5) := hP5
                clear hP5 hY5 hb5
                go_wp2
                go_roundw
                case rel =>
                  have hs : putAll x (S.take (k + 1)) = (o, true) := by rw [HST.out]; simp [putStep, HE.out, HT.out]
                  exact ⟨k + 1, b, dd, o, true, by omega, by go_num, rfl, by simp, HF.out, hs⟩
                case measure => simp [intOf]; omega
              · have hab : (y.2 != x.2) = true := by simpa using hat
                have hq := fun W => neqA y.2 x.2 W
                rw [hab] at hq
                have HT : Hid ((y.2 != x.2) = true) := hab
                clear hab
                clear hat
                go_wp2_with fail
                refine C.mono ?_
                rintro e w5 ⟨rfl, hb5⟩
                have hP5 := HP.out.below hb5
                have hY5 := HY.out.below hb5 HY.out.lt
                obtain ⟨x0, x1, x2, x3⟩ := hP5.bx.four
                obtain ⟨y0, y1, y2, y3⟩ := hY5.four
                obtain ⟨g2, d2, W2, hr2, hP7, ho2⟩ := hP5.app y (by omega)
                have HF : Hid (PutR w x (some ⟨g2, 0, none⟩) d2 (o ++ [y]) W2) := hP7
                clear hP5 hY5 hb5 hP7 ho2
                go_wp2_with (first | (at_builtin; refine wpList_append_run rfl _ _ 43 43 rfl _ _ rfl rfl _ _ hr2 ?_; clear hr2) | go_in)
                go_roundw
                case rel =>
                  have hs : putAll x (S.take (k + 1)) = ((o ++ [y]), true) := by rw [HST.out]; simp [putStep, HE.out, HT.out]
                  exact ⟨k + 1, (some ⟨g2, 0, none⟩), d2, (o ++ [y]), true, by omega, by go_num, rfl, by simp, HF.out, hs⟩
                case measure => simp [intOf]; omega
            | true =>
              rw [hl] at C
              have HL : Hid (ltP x.1 y.1 = true) := hl
              clear hl
              by_cases hat : y.2 = x.2
              · have hab : (y.2 != x.2) = false := by simp [hat]
                have hq := fun W => neqA y.2 x.2 W
                rw [hab] at hq
                have HT : Hid ((y.2 != x.2) = false) := hab
                clear hab
                clear hat
                go_wp2_with fail
                refine C.mono ?_
                rintro e w5 ⟨rfl, hb5⟩
                have hP5 := HP.out.below hb5
                have hY5 := HY.out.below hb5 HY.out.lt
                obtain ⟨x0, x1, x2, x3⟩ := hP5.bx.four
                obtain ⟨y0, y1, y2, y3⟩ := hY5.four
                have HF : Hid (PutR w x b dd o w5) := hP5
                clear hP5 hY5 hb5
                go_wp2
                go_roundw
                case rel =>
                  have hs : putAll x (S.take (k + 1)) = (o, true) := by rw [HST.out]; simp [putStep, HE.out, HT.out]
                  exact ⟨k + 1, b, dd, o, true, by omega, by go_num, rfl, by simp, HF.out, hs⟩
                case measure => simp [intOf]; omega
              · have hab : (y.2 != x.2) = true := by simpa using hat
                have hq := fun W => neqA y.2 x.2 W
                rw [hab] at hq
                have HT : Hid ((y.2 != x.2) = true) := hab
                clear hab
                clear hat
                go_wp2_with fail
                refine C.mono ?_
                rintro e w5 ⟨rfl, hb5⟩
                have hP5 := HP.out.below hb5
                have hY5 := HY.out.below hb5 HY.out.lt
                obtain ⟨x0, x1, x2, x3⟩ := hP5.bx.four
                obtain ⟨y0, y1, y2, y3⟩ := hY5.four
                obtain ⟨g2, d2, W2, hr2, hP7, ho2⟩ := hP5.app y (by omega)
                have HF : Hid (PutR w x (some ⟨g2, 0, none⟩) d2 (o ++ [y]) W2) := hP7
                clear hP5 hY5 hb5 hP7 ho2
                go_wp2_with (first | (at_builtin; refine wpList_append_run rfl _ _ 43 43 rfl _ _ rfl rfl _ _ hr2 ?_; clear hr2) | go_in)
                go_roundw
                case rel =>
                  have hs : putAll x (S.take (k + 1)) = ((o ++ [y]), true) := by rw [HST.out]; simp [putStep, HE.out, HT.out]
                  exact ⟨k + 1, (some ⟨g2, 0, none⟩), d2, (o ++ [y]), true, by omega, by go_num, rfl, by simp, HF.out, hs⟩
                case measure => simp [intOf]; omega
    · have hge : (S.length : Int) ≤ k := by omega
      have hkn : k = S.length := by omega
      have hput : putS S x = if d then o else o ++ [x] := by
        unfold putS
        rw [hkn, List.take_length] at hod
        rw [hod]
      have hgd := HG.out.1.put HG.out.2
      rw [hput] at hgd
      cases d with
      | true =>
        rw [if_pos rfl] at hgd hput
        have HPS : Hid (putS S x = o) := hput
        have HF : Hid (LmD (wr.setCell ⟨r, 0, none⟩ (.slice b o.length dd)) r o ∧ Out (fun k => k = r) w (wr.setCell ⟨r, 0, none⟩ (.slice b o.length dd))) := hP.done HR.out.1 hgd
        have f0 := (HR.out.1.below hP.bel HR.out.1.lt).frozen 0
        clear hP hod hput hgd hkn c0'
        go_wp2
        first | go_end0 | refine bodyPost_ret (results_none rfl _ _ _) rfl ?_
        exact ⟨rfl, by rw [HPS.out]; exact HF.out⟩
      | false =>
        rw [if_neg (by simp)] at hgd hput
        have HPS : Hid (putS S x = o ++ [x]) := hput
        obtain ⟨x0, x1, x2, x3⟩ := hP.bx.four
        obtain ⟨g2, d2, W2, hr2, hP7, ho2⟩ := hP.app x (by omega)
        have hbr := HR.out.1.below hP7.bel HR.out.1.lt
        have f0 := hbr.frozen 0
        have q0 := hbr.cell 0
        simp only [List.getElem?_cons_zero] at q0
        have hF := hP7.done HR.out.1 hgd
        rw [List.length_append] at hF
        simp only [List.length_cons, List.length_nil, Nat.zero_add] at hF
        have HF : Hid (LmD (W2.setCell ⟨r, 0, none⟩ (.slice (some ⟨g2, 0, none⟩) (o.length + 1) d2)) r (o ++ [x]) ∧ Out (fun k => k = r) w (W2.setCell ⟨r, 0, none⟩ (.slice (some ⟨g2, 0, none⟩) (o.length + 1) d2))) := hF
        clear hP hod hput hgd hkn c0' hP7 ho2 hF hbr
        go_wp2_with (first | (at_builtin; refine wpList_append_run rfl _ _ 43 43 rfl _ _ rfl rfl _ _ hr2 ?_; clear hr2) | go_in)
        first | go_end0 | refine bodyPost_ret (results_none rfl _ _ _) rfl ?_
        exact ⟨rfl, by rw [HPS.out]; exact HF.out⟩
end Go.Proofs.Ytconfkgadmjhhaa
