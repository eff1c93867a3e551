/- The document's map in the world; what one call of New, less and Drop does. -/
import Derived.Test.YtconfkgadmjhhaaLmU
import Derived.Test.YtconfkgadmjhhaaLmA
import Derived.BigQuiet
namespace Go.Proofs.Ytconfkgadmjhhaa
open Go.RowKit
set_option linter.unusedVariables false
set_option maxRecDepth 4000

/-- The document's map behind r. -/
structure LmD (w : World) (r : Nat) (S : List Pl) : Prop where
  row : ∃ a n cc, Blk w r [.slice a n cc] 59 ∧ w.ownsRow 0 34 4 (.slice a n cc) n (plC S)
  good : Good S
theorem own_ne {w : World} {r : Nat} {L : List Value} {t e : TypeId} {size n B : Nat} {v : Value} {xs : List Value} (hb : Blk w r L t) (ho : w.ownsRow B e size v n xs) (hne : t ≠ e) : v.ownBlock ≠ some r := by
  intro h
  obtain ⟨cur, hc⟩ := own_at_block ho h
  unfold Blk at hb
  rw [hb] at hc
  cases hc
  exact hne rfl
theorem LmD.lt {w : World} {r : Nat} {S : List Pl} (h : LmD w r S) : r < w.heap.size := by obtain ⟨a, n, cc, hb, _⟩ := h.row; exact hb.lt
theorem LmD.out {O : Nat → Prop} {w w' : World} {r : Nat} {S : List Pl} (h : LmD w r S) (ho : Out O w w') (hn : ∀ g cur e fr, w.heap[g]? = some (.cells cur e fr) → ¬ O g) : LmD w' r S := by
  obtain ⟨a, n, cc, hb, hr⟩ := h.row
  exact ⟨⟨a, n, cc, ho.blk hb (hn _ _ _ _ hb), ho.own hr (fun g hg => by obtain ⟨cur, hc⟩ := own_at_block hr hg; exact hn _ _ _ _ hc)⟩, h.good⟩
theorem LmD.below {w w' : World} {r : Nat} {S : List Pl} (h : LmD w r S) (hb : Below w.heap.size w w') : LmD w' r S := h.out (below_out Non hb) (fun _ _ _ _ _ e => e)
/-- What the program's map does leaves the document's as it is. -/
theorem LmD.prog {w w' : World} {r p b1 b2 c : Nat} {S S' : List Pl} (h : LmD w r S) (hp : LmP w p b1 b2 S' c) (ho : Out (Two b1 b2) w w') : LmD w' r S := h.out ho (fun g cur e fr hg => by
  rintro (rfl | rfl)
  · obtain ⟨D, ⟨es, clock, hb', _⟩, _⟩ := hp.m1; rw [hb'] at hg; cases hg
  · obtain ⟨D, ⟨es, clock, hb', _⟩, _⟩ := hp.m2; rw [hb'] at hg; cases hg)
/-- .. and the other way. -/
theorem LmP.doc {w w' : World} {r p b1 b2 c : Nat} {S S' : List Pl} (hp : LmP w p b1 b2 S' c) (h : LmD w r S) (ho : Out (fun k => k = r) w w') : LmP w' p b1 b2 S' c := by
  obtain ⟨a, n, cc, hb, hr⟩ := h.row
  refine hp.out ho ?_
  rintro k (rfl | rfl | rfl) rfl
  · have h1 := hp.hp
    unfold Blk at h1 hb
    rw [h1] at hb
    cases hb
  · exact hp.m1.no_blk hb rfl
  · exact hp.m2.no_blk hb rfl
theorem dmNew_of (w : World) : Calls Try.prog 10 #[] w fun e w' => e = .returned (.pointer (some ⟨w.heap.size, 0, none⟩)) ∧ LmD w' w.heap.size [] ∧ Below w.heap.size w w' := by
  go_enter Try.func10, Try.ntmps10
  go_wp2
  go_ret
  exact ⟨rfl, ⟨⟨none, 0, 0, Blk.new' rfl rfl, ⟨rfl, .inl ⟨rfl, rfl⟩⟩⟩, good_nil⟩, (Below.refl _ _).alloc (Nat.le_refl _) _⟩
theorem dless_of (x y : Pl) (w : World) : Calls Try.prog 33 #[.agg #[.int .u32 x.1.1, .int .u64 x.1.2, .int .i64 x.2.1, .int .i64 x.2.2], .agg #[.int .u32 y.1.1, .int .u64 y.1.2, .int .i64 y.2.1, .int .i64 y.2.2]] w fun e w' => e = .returned (.bool (ltP x.1 y.1)) ∧ Below w.heap.size w w' := by
  have hL : ltP x.1 y.1 = if x.1.1 = y.1.1 then decide (x.1.2 < y.1.2) else decide (x.1.1 < y.1.1) := by
    unfold ltP
    by_cases h : x.1.1 = y.1.1
    · simp [h]
    · simp [h]
  have HL : Hid (ltP x.1 y.1 = if x.1.1 = y.1.1 then decide (x.1.2 < y.1.2) else decide (x.1.1 < y.1.1)) := hL
  clear hL
  by_cases h : x.1.1 = y.1.1
  · go_enter Try.func33, Try.ntmps33
    go_wp2
    go_ret
    refine ⟨?_, ((Below.refl _ _).alloc (Nat.le_refl _) _).alloc (by simp) _⟩
    rw [HL.out, if_pos h]; rfl
  · go_enter Try.func33, Try.ntmps33
    go_wp2
    go_ret
    refine ⟨?_, ((Below.refl _ _).alloc (Nat.le_refl _) _).alloc (by simp) _⟩
    rw [HL.out, if_neg h]; rfl
/-- One place more. -/
theorem app_place {W : World} {B : Nat} {a : Option Addr} {n cc : Nat} {xs : List Pl} (h : W.ownsRow B 34 4 (.slice a n cc) n (plC xs)) (x : Pl) (hn : n ≤ 100000) (hB : B ≤ W.heap.size) (q : Nat) (hq : W.heap.size = q) :
    ∃ g' cc' W', (Builtin.append_ #[43, 43] 43 #[.slice a n cc, .slice (some ⟨q, 0, none⟩) 1 1]).run Try.prog (W.alloc (.cells #[.int .u32 x.1.1, .int .u64 x.1.2, .int .i64 x.2.1, .int .i64 x.2.2] 34)) = .ok (.slice (some ⟨g', 0, none⟩) (n + 1) cc') W' ∧
      W'.ownsRow B 34 4 (.slice (some ⟨g', 0, none⟩) (n + 1) cc') (n + 1) (plC (xs ++ [x])) ∧ W.grownBy W' (Value.slice a n cc).ownBlock := by
  subst hq
  have hb : Blk (W.alloc (.cells #[.int .u32 x.1.1, .int .u64 x.1.2, .int .i64 x.2.1, .int .i64 x.2.2] 34)) W.heap.size (plL x) 34 := Blk.new' rfl rfl
  obtain ⟨v', W', h1, h2, h3, h4⟩ := run_app (ty := 43) Try.underlying43 Try.zero_place rfl (by decide) (by decide) (own_zero (h.alloc (.cells #[.int .u32 x.1.1, .int .u64 x.1.2, .int .i64 x.2.1, .int .i64 x.2.2] 34))) ⟨W.heap.size, 0, none⟩ 1 1 (plL x) rfl (fun j u hj => by rw [Addr.add_mid, Nat.zero_add, hb.cell]; exact hj) (plL_one x) (by omega)
  rw [plC_snoc] at h2
  rcases h2.2 with ⟨_, h0⟩ | ⟨g', cc', cur, rfl, hB', hh, r⟩
  · omega
  · refine ⟨g', cc', W', h1, own_base h2 (fun g hg => ?_), (World.grownBy_alloc W _ _).andThen h3 (fun j e => .inr e)⟩
    rcases h4 with h4 | h4
    · exact (h.lt g (by rw [← h4]; exact hg)).1
    · have := h4 g hg
      simp at this
      omega
theorem dmDrop_of (r : Nat) (S : List Pl) (n : Pr) (w : World) (h : LmD w r S) (hS : S.length ≤ 10000) :
    Calls Try.prog 25 #[.pointer (some ⟨r, 0, none⟩), .int .u32 n.1, .int .u64 n.2] w fun e w' => e = .returned (.bool (getS S n).isSome) ∧ LmD w' r (dropS S n) ∧ Out (fun k => k = r) w w' := by
  obtain ⟨a, m, cc, hb, hr⟩ := h.row
  have hm : S.length = m := (own_pl hr).1
  subst hm
  have HG : Hid (Good S) := h.good
  have HR : Hid (Blk w r [.slice a S.length cc] 59 ∧ w.ownsRow 0 34 4 (.slice a S.length cc) S.length (plC S)) := ⟨hb, hr⟩
  clear h hb hr
  go_enter Try.func25, Try.ntmps25
  go_wp2
  go_loopw [7, 8] (fun v i wr => ∃ (k : Nat) (b : Option Addr) (dd : Nat), k ≤ S.length ∧ i = .int .i64 k ∧ v = .slice b (dropS (S.take k) n).length dd ∧ wr.ownsRow w.heap.size 34 4 (.slice b (dropS (S.take k) n).length dd) (dropS (S.take k) n).length (plC (dropS (S.take k) n)) ∧ Below w.heap.size w wr) (fun _ i _ => S.length - (intOf i).toNat)
  case atStart => exact ⟨0, none, 0, by omega, rfl, rfl, ⟨rfl, .inl ⟨rfl, rfl⟩⟩, Below.refl _ _⟩
  case round =>
    obtain ⟨k, b, dd, hk, rfl, rfl, hO, hB⟩ := hrel
    have c0 := (HR.out.1.below hB HR.out.1.lt).cell 0
    simp only [List.getElem?_cons_zero] at c0
    by_cases hlt : k < S.length
    · have hlt' : (k : Int) < S.length := by omega
      obtain ⟨y, hy⟩ : ∃ y, S[k]? = some y := ⟨_, List.getElem?_eq_getElem hlt⟩
      obtain ⟨g, rfl, hc⟩ := (own_pl HR.out.2).2.resolve_left (by omega)
      obtain ⟨y0, y1, y2, y3⟩ := hc k y hy
      have y0 := (hB.cell (old_block y0)).trans y0
      have y1 := (hB.cell (old_block y1)).trans y1
      have y2 := (hB.cell (old_block y2)).trans y2
      have y3 := (hB.cell (old_block y3)).trans y3
      clear hc
      have hld : (dropS (S.take k) n).length ≤ k := by have := dropS_len (S.take k) n; rw [List.length_take] at this; omega
      have htk : S.take (k + 1) = S.take k ++ [y] := by rw [List.take_succ_eq_append_getElem hlt]; congr 2; exact (List.getElem?_eq_some_iff.1 hy).2
      by_cases hn : y.1 = n
      · have hdr : dropS (S.take (k + 1)) n = dropS (S.take k) n := by rw [htk]; unfold dropS; simp [List.filter_append, hn]
        have e1 : (y.1.1 != n.1) = false := by rw [hn]; simp
        have e2 : (y.1.2 != n.2) = false := by rw [hn]; simp
        have HO : Hid (wr.ownsRow w.heap.size 34 4 (.slice b (dropS (S.take k) n).length dd) (dropS (S.take k) n).length (plC (dropS (S.take k) n)) ∧ Below w.heap.size w wr ∧ dropS (S.take (k + 1)) n = dropS (S.take k) n) := ⟨hO, hB, hdr⟩
        clear hO hB hdr htk hn hy
        go_wp2
        go_roundw
        case rel => exact ⟨k + 1, b, dd, by omega, by go_num, by rw [HO.out.2.2], by rw [HO.out.2.2]; exact HO.out.1, HO.out.2.1⟩
        case measure => simp [intOf]; omega
      · have hdr : dropS (S.take (k + 1)) n = dropS (S.take k) n ++ [y] := by rw [htk]; unfold dropS; simp [List.filter_append, hn]
        by_cases ht : y.1.1 = n.1
        · have e1 : (y.1.1 != n.1) = false := by rw [ht]; simp
          have e2 : (y.1.2 != n.2) = true := by
            have := pr_ne.1 hn
            simp only [bne_iff_ne]
            omega
          clear ht
          have HO : Hid (Below w.heap.size w wr) := hB
          obtain ⟨g', cc', W', hrun, hO3, hgr⟩ := app_place hO y (by omega) hB.size wr.heap.size rfl
          have HA : Hid (dropS (S.take (k + 1)) n = dropS (S.take k) n ++ [y] ∧ W'.ownsRow w.heap.size 34 4 (.slice (some ⟨g', 0, none⟩) ((dropS (S.take k) n).length + 1) cc') ((dropS (S.take k) n).length + 1) (plC (dropS (S.take k) n ++ [y])) ∧ Below w.heap.size w W') := ⟨hdr, hO3, hB.grown hgr hB.size (fun j hj => (hO.lt j hj).1)⟩
          clear hO hB hdr htk hn hy hO3 hgr
          go_wp2_with (first | (at_builtin; refine wpList_append_run rfl _ _ 43 43 rfl _ _ rfl rfl _ _ hrun ?_) | go_in)
          go_roundw
          case rel => exact ⟨k + 1, some ⟨g', 0, none⟩, cc', by omega, by go_num, by rw [HA.out.1]; simp, by rw [HA.out.1]; simpa using HA.out.2.1, HA.out.2.2⟩
          case measure => simp [intOf]; omega
        · have e1 : (y.1.1 != n.1) = true := by simpa using ht
          clear ht
          have HO : Hid (Below w.heap.size w wr) := hB
          obtain ⟨g', cc', W', hrun, hO3, hgr⟩ := app_place hO y (by omega) hB.size wr.heap.size rfl
          have HA : Hid (dropS (S.take (k + 1)) n = dropS (S.take k) n ++ [y] ∧ W'.ownsRow w.heap.size 34 4 (.slice (some ⟨g', 0, none⟩) ((dropS (S.take k) n).length + 1) cc') ((dropS (S.take k) n).length + 1) (plC (dropS (S.take k) n ++ [y])) ∧ Below w.heap.size w W') := ⟨hdr, hO3, hB.grown hgr hB.size (fun j hj => (hO.lt j hj).1)⟩
          clear hO hB hdr htk hn hy hO3 hgr
          go_wp2_with (first | (at_builtin; refine wpList_append_run rfl _ _ 43 43 rfl _ _ rfl rfl _ _ hrun ?_) | go_in)
          go_roundw
          case rel => exact ⟨k + 1, some ⟨g', 0, none⟩, cc', by omega, by go_num, by rw [HA.out.1]; simp, by rw [HA.out.1]; simpa using HA.out.2.1, HA.out.2.2⟩
          case measure => simp [intOf]; omega
    · have hge : (S.length : Int) ≤ k := by omega
      have hkn : k = S.length := by omega
      rw [hkn, List.take_length] at hO
      have f0 := (HR.out.1.below hB HR.out.1.lt).frozen 0
      have hts : S.take k = S := by rw [hkn, List.take_length]
      rw [hts]
      have HO : Hid (LmD (wr.setCell ⟨r, 0, none⟩ (.slice b (dropS S n).length dd)) r (dropS S n) ∧ Out (fun k => k = r) w (wr.setCell ⟨r, 0, none⟩ (.slice b (dropS S n).length dd))) := by
        have hbr := HR.out.1.below hB HR.out.1.lt
        have hne := own_ne hbr hO (by decide)
        refine ⟨⟨⟨b, _, dd, hbr.set 0 _, ?_⟩, HG.out.drop n⟩, (below_out (fun k => k = r) hB).setCell (.inl rfl) _⟩
        have ho : Out (fun k => k = r) wr (wr.setCell ⟨r, 0, none⟩ (.slice b (dropS S n).length dd)) := (Out.refl (fun k => k = r) wr).setCell (p := ⟨r, 0, none⟩) (.inl rfl) _
        exact ho.own (own_zero hO) (fun g hg e => hne (by rw [hg, e]))
      have HW : Hid (decide ((dropS S n).length < S.length) = (getS S n).isSome) := drop_len S n
      clear hO hB hts hkn
      go_wp2
      go_ret
      refine ⟨?_, HO.out⟩
      rw [← HW.out]
      simp
/-! Places that are compared. -/
theorem eqlA (a b : Pr) (W : World) : (Go.binOp .eql 32 (.agg #[.int .i64 a.1, .int .i64 a.2]) (.agg #[.int .i64 b.1, .int .i64 b.2])).run Try.prog W = .ok (.bool (a == b)) W := by
  have h : (a == b) = (a.1 == b.1 && a.2 == b.2) := by obtain ⟨a1, a2⟩ := a; obtain ⟨b1, b2⟩ := b; rfl
  rw [h]
  by_cases h1 : a.1 = b.1
  · by_cases h2 : a.2 = b.2
    · go_simp
    · go_simp
  · go_simp
theorem neqA (a b : Pr) (W : World) : (Go.binOp .neq 32 (.agg #[.int .i64 a.1, .int .i64 a.2]) (.agg #[.int .i64 b.1, .int .i64 b.2])).run Try.prog W = .ok (.bool (a != b)) W := by
  have h : (a != b) = !(a.1 == b.1 && a.2 == b.2) := by obtain ⟨a1, a2⟩ := a; obtain ⟨b1, b2⟩ := b; rfl
  rw [h]
  by_cases h1 : a.1 = b.1
  · by_cases h2 : a.2 = b.2
    · go_simp
    · go_simp
  · go_simp
theorem eqlP (x y : Pl) (W : World) : (Go.binOp .eql 34 (.agg #[.int .u32 x.1.1, .int .u64 x.1.2, .int .i64 x.2.1, .int .i64 x.2.2]) (.agg #[.int .u32 y.1.1, .int .u64 y.1.2, .int .i64 y.2.1, .int .i64 y.2.2])).run Try.prog W = .ok (.bool (x == y)) W := by
  have h : (x == y) = ((x.1.1 == y.1.1 && x.1.2 == y.1.2) && (x.2.1 == y.2.1 && x.2.2 == y.2.2)) := by obtain ⟨⟨a1, a2⟩, a3, a4⟩ := x; obtain ⟨⟨b1, b2⟩, b3, b4⟩ := y; rfl
  rw [h]
  by_cases h1 : x.1.1 = y.1.1
  · by_cases h2 : x.1.2 = y.1.2
    · by_cases h3 : x.2.1 = y.2.1
      · by_cases h4 : x.2.2 = y.2.2
        · go_simp
        · go_simp
      · go_simp
    · go_simp
  · go_simp
theorem neqP (x y : Pl) (W : World) : (Go.binOp .neq 34 (.agg #[.int .u32 x.1.1, .int .u64 x.1.2, .int .i64 x.2.1, .int .i64 x.2.2]) (.agg #[.int .u32 y.1.1, .int .u64 y.1.2, .int .i64 y.2.1, .int .i64 y.2.2])).run Try.prog W = .ok (.bool (x != y)) W := by
  have h : (x != y) = !((x.1.1 == y.1.1 && x.1.2 == y.1.2) && (x.2.1 == y.2.1 && x.2.2 == y.2.2)) := by obtain ⟨⟨a1, a2⟩, a3, a4⟩ := x; obtain ⟨⟨b1, b2⟩, b3, b4⟩ := y; rfl
  rw [h]
  by_cases h1 : x.1.1 = y.1.1
  · by_cases h2 : x.1.2 = y.1.2
    · by_cases h3 : x.2.1 = y.2.1
      · by_cases h4 : x.2.2 = y.2.2
        · go_simp
        · go_simp
      · go_simp
    · go_simp
  · go_simp
end Go.Proofs.Ytconfkgadmjhhaa
