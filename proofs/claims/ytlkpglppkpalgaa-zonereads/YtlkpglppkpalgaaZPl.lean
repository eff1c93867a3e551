/- Places that were told, and their blocks, kept beside a device. -/
import Derived.Test.YtlkpglppkpalgaaZDoesM
namespace Go.Proofs.Ytlkpglppkpalgaa
open Go.RowKit Go.Shelf
set_option linter.unusedVariables false
set_option maxRecDepth 4000

abbrev Ad := Int × Int
def adL : List Ad → List Value
  | [] => []
  | a :: l => .int .i64 a.1 :: .int .i64 a.2 :: adL l
theorem adL_length : ∀ l : List Ad, (adL l).length = l.length * 2
  | [] => rfl
  | a :: l => by simp [adL, adL_length l]; omega
theorem adL_get : ∀ (l : List Ad) (i : Nat) (a : Ad), l[i]? = some a → (adL l)[2 * i]? = some (.int .i64 a.1) ∧ (adL l)[2 * i + 1]? = some (.int .i64 a.2)
  | [], i, a, h => by simp at h
  | b :: l, 0, a, h => by simp at h; subst h; exact ⟨rfl, rfl⟩
  | b :: l, i + 1, a, h => by
    have := adL_get l i a (by simpa using h)
    have e : 2 * (i + 1) = 2 * i + 1 + 1 := by omega
    rw [e]
    simpa [adL] using this
theorem adL_snoc : ∀ (l : List Ad) (a : Ad), adL l ++ [.int .i64 a.1, .int .i64 a.2] = adL (l ++ [a])
  | [], a => rfl
  | b :: l, a => by simp [adL, ← adL_snoc l a]
theorem Try.zero_addr : (Try.prog.info? 59).map (fun i => (i.zero, i.size, i.bytes)) = some (some (.agg #[.int .i64 0, .int .i64 0]), 2, 16) := by kernel_rfl
def AdAt (O : Nat → Prop) (W : World) (v : Value) (l : List Ad) : Prop := W.ownsRow 0 59 2 v l.length (adL l) ∧ ∀ r, v.ownBlock = some r → O r
section
variable {O S : Nat → Prop} {W W' : World} {v : Value} {l : List Ad}
theorem AdAt.out (h : AdAt O W v l) (ho : Out S W W') (hS : ∀ r, v.ownBlock = some r → ¬ S r) : AdAt O W' v l := ⟨ho.own h.1 hS, h.2⟩
theorem AdAt.under (h : AdAt O W v l) (hb : Below W.heap.size W W') : AdAt O W' v l := h.out (below_out Non hb) (fun _ _ e => e)
theorem AdAt.mono {O' : Nat → Prop} (h : AdAt O W v l) (hO : ∀ x, O x → x < W.heap.size → O' x) : AdAt O' W v l := ⟨h.1, fun r hr => hO r (h.2 r hr) (h.1.lt r hr).2⟩
theorem AdAt.nil (O : Nat → Prop) (W : World) : AdAt O W (.slice none 0 0) [] := ⟨World.ownsRow_nil _ _ _ _, fun r h => by cases h⟩
theorem AdAt.slice (h : AdAt O W v l) : ∃ a c, v = .slice a l.length c := own_slice h.1
theorem AdAt.cell {a : Option Addr} {n c : Nat} (h : AdAt O W (.slice a n c) l) {i : Nat} {x : Ad} (hx : l[i]? = some x) : ∃ g, a = some ⟨g, 0, none⟩ ∧ W.cell? ⟨g, i * 2, none⟩ = some (.int .i64 x.1) ∧ W.cell? ⟨g, i * 2 + 1, none⟩ = some (.int .i64 x.2) := by
  have hi := (List.getElem?_eq_some_iff.1 hx).1
  obtain ⟨g1, g2⟩ := adL_get l i x hx
  have hl := adL_length l
  rcases h.1.2 with ⟨hv, hz⟩ | ⟨g, cap, cur, hv, hb, hg, hc, hcm, hsz, htake⟩
  · omega
  · cases hv
    have h1 := h.1
    refine ⟨g, rfl, ?_, ?_⟩
    · rw [Nat.mul_comm, h1.cellAt _ (by omega)]; exact g1
    · rw [Nat.mul_comm, h1.cellAt _ (by omega)]; exact g2
theorem app_ad (h : AdAt O W v l) (a : Ad) (hl : l.length + 1 ≤ 100000) (hO : ∀ k, W.heap.size ≤ k → O k) :
    ∃ a' c' w', (Builtin.append_ #[54, 54] 54 #[v, .slice (some ⟨W.heap.size, 0, none⟩) 1 1]).run Try.prog (W.alloc (.cells #[.int .i64 a.1, .int .i64 a.2] 59)) = .ok (.slice a' (l.length + 1) c') w' ∧
      AdAt O w' (.slice a' (l.length + 1) c') (l ++ [a]) ∧ Out (fun x => v.ownBlock = some x) W w' ∧ ((Value.slice a' (l.length + 1) c').ownBlock = v.ownBlock ∨ ∀ g, (Value.slice a' (l.length + 1) c').ownBlock = some g → W.heap.size ≤ g) := by
  have hA := run_app (t := 54) (ty := 54) Try.underlying54 Try.zero_addr rfl (by decide) (by decide) (h.1.alloc (.cells #[.int .i64 a.1, .int .i64 a.2] 59)) ⟨W.heap.size, 0, none⟩ 1 1 [.int .i64 a.1, .int .i64 a.2] rfl (by
    intro j u hj
    rw [Addr.add_mid, Nat.zero_add, World.cell?_alloc_mark]
    simpa using hj) (by intro u hu; simp at hu; rcases hu with rfl | rfl <;> rfl) (by omega)
  obtain ⟨v', w', hr, how, hg, hf⟩ := hA
  rw [adL_snoc] at how
  obtain ⟨a', c', rfl⟩ := own_slice how
  refine ⟨a', c', w', hr, ⟨by simpa using how, fun r hr' => ?_⟩, ?_, ?_⟩
  · rcases hf with hf | hf
    · exact h.2 r (by rw [← hf]; exact hr')
    · exact hO r (by have := hf r hr'; simp at this; omega)
  · exact ((Out.refl (fun x => v.ownBlock = some x) W).alloc _).grown hg (fun k e => .inl e)
  · rcases hf with hf | hf
    · exact .inl hf
    · exact .inr fun g hg' => by have := hf g hg'; simp at this; omega
end

/-! ### What is read at a place -/
def Rd (zs : List Zn) (a : Ad) (D : List Int) : Prop := rdE zs a.1 a.2 = 0 ∧ rdB zs a.1 a.2 = D
theorem rd_iff {zs : List Zn} {a : Ad} {D : List Int} : Rd zs a D ↔ ∃ (i j : Nat) (z : Zn), a = ((i : Int), (j : Int)) ∧ zs[i]? = some z ∧ z.1[j]? = some D := by
  obtain ⟨x, y⟩ := a
  unfold Rd rdE rdB
  dsimp only
  constructor
  · rintro ⟨h1, h2⟩
    by_cases hz : zoneIn zs x
    · rw [if_pos hz] at h1 h2
      by_cases hb : blockIn zs x y
      · rw [if_pos hb] at h2
        unfold zoneIn at hz
        unfold blockIn at hb
        obtain ⟨i, rfl⟩ : ∃ i : Nat, x = i := ⟨x.toNat, by omega⟩
        obtain ⟨j, rfl⟩ : ∃ j : Nat, y = j := ⟨y.toNat, by omega⟩
        obtain ⟨z, hz'⟩ : ∃ z, zs[i]? = some z := ⟨zs[i]'(by omega), by simp⟩
        rw [atZ_in hz'] at hb h2
        refine ⟨i, j, z, rfl, hz', ?_⟩
        have hj : j < z.1.length := by omega
        rw [← h2]
        simp [List.getD, hj]
      · rw [if_neg hb] at h1; omega
    · rw [if_neg hz] at h1; omega
  · rintro ⟨i, j, z, e, hz, hD⟩
    obtain ⟨rfl, rfl⟩ : x = i ∧ y = j := by simpa using e
    have hi := (List.getElem?_eq_some_iff.1 hz).1
    have hj := (List.getElem?_eq_some_iff.1 hD).1
    have h1 : zoneIn zs i := by unfold zoneIn; omega
    have h2 : blockIn zs i j := by unfold blockIn; rw [atZ_in hz]; omega
    rw [if_pos h1, if_pos h2, if_pos h1, if_pos h2, atZ_in hz]
    exact ⟨rfl, by simp [List.getD, hD]⟩
theorem rd_app {s : Sh} {zs : List Zn} {a : Ad} {D : List Int} (h : Rd zs a D) (zn : Int) (E : List Int) : Rd (appZ s zs zn E) a D := by
  rw [rd_iff] at h ⊢
  obtain ⟨i, j, z, rfl, hz, hD⟩ := h
  unfold appZ
  split
  · rename_i ho
    split
    · exact ⟨i, j, z, rfl, hz, hD⟩
    · by_cases e : zn.toNat = i
      · have hzn : zn = (i : Int) := by have := ho.1; omega
        subst hzn
        refine ⟨i, j, _, rfl, by rw [e, List.getElem?_set_self (List.getElem?_eq_some_iff.1 hz).1], ?_⟩
        rw [atZ_in hz]
        show (z.1 ++ [E])[j]? = some D
        rw [List.getElem?_append_left (List.getElem?_eq_some_iff.1 hD).1]
        exact hD
      · exact ⟨i, j, z, rfl, by rw [List.getElem?_set_ne e]; exact hz, hD⟩
  · exact ⟨i, j, z, rfl, hz, hD⟩
theorem rd_new {s : Sh} {zs : List Zn} {zn : Int} {E : List Int} (h : appE s zs zn E = 0) : Rd (appZ s zs zn E) (appA s zs zn E) E := by
  unfold appE at h
  by_cases ho : appOk s zs zn E
  · rw [if_pos ho] at h
    by_cases hf : appFull s zs zn
    · rw [if_pos hf] at h; omega
    · unfold appZ appA
      rw [if_pos ho, if_neg hf, if_pos ho, if_neg hf]
      obtain ⟨h1, h2, _⟩ := ho
      obtain ⟨i, rfl⟩ : ∃ i : Nat, zn = i := ⟨zn.toNat, by omega⟩
      obtain ⟨z, hz⟩ : ∃ z, zs[i]? = some z := ⟨zs[i]'(by omega), by simp⟩
      rw [rd_iff]
      refine ⟨i, z.1.length, (z.1 ++ [E], z.2), by rw [atZ_in hz], ?_, by simp⟩
      rw [atZ_in hz, Int.toNat_natCast, List.getElem?_set_self (List.getElem?_eq_some_iff.1 hz).1]
  · rw [if_neg ho] at h; omega
theorem rd_reset {zs : List Zn} {a : Ad} {D : List Int} (h : Rd zs a D) {zn : Int} (hne : a.1 ≠ zn) : Rd (resetZ zs zn) a D := by
  rw [rd_iff] at h ⊢
  obtain ⟨i, j, z, rfl, hz, hD⟩ := h
  refine ⟨i, j, z, rfl, ?_, hD⟩
  unfold resetZ
  split
  · rw [List.getElem?_set_ne (by dsimp only at hne; omega)]; exact hz
  · exact hz

/-! ### The state between two calls -/
abbrev Pb := Ad × List Int
def QO (W4 : World) (O : Nat → Prop) : Nat → Prop := fun x => ¬ O x ∧ W4.heap.size ≤ x
structure PlSt (W4 : World) (O : Nat → Prop) (W : World) (p : Nat) (s : Sh) (zs : List Zn) (u v : Value) (L : List Pb) : Prop where
  dv : Dv 69 O W p s zs
  wf : Wf s zs
  o : ∀ x, O x → W4.heap.size ≤ x ∧ x < W.heap.size
  ad : AdAt (QO W4 O) W u (L.map (·.1))
  row : RowAt (QO W4 O) W v (L.map (·.2))
  bel : Below W4.heap.size W4 W
section
variable {W4 W W' : World} {O : Nat → Prop} {p : Nat} {s : Sh} {zs zs' : List Zn} {u v : Value} {L : List Pb}
theorem PlSt.under (h : PlSt W4 O W p s zs u v L) (hb : Below W.heap.size W W') : PlSt W4 O W' p s zs u v L :=
  ⟨dv_under h.dv hb, h.wf, fun x hx => ⟨(h.o x hx).1, Nat.lt_of_lt_of_le (h.o x hx).2 hb.size⟩, h.ad.under hb, h.row.out (below_out Non hb) (fun _ _ e => e) (fun _ _ _ _ e => e), h.bel.trans (hb.mono h.bel.size)⟩
theorem PlSt.new (h : PlSt W4 O W p s zs u v L) : ∀ k, W.heap.size ≤ k → QO W4 O k := fun k hk => ⟨fun e => by have := (h.o k e).2; omega, by have := h.bel.size; omega⟩
def nextO (O : Nat → Prop) (W W' : World) : Nat → Prop := fun x => (O x ∨ W.heap.size ≤ x) ∧ x < W'.heap.size
theorem PlSt.qo (h : PlSt W4 O W p s zs u v L) : ∀ x, QO W4 O x → x < W.heap.size → QO W4 (nextO O W W') x := fun x hx hlt => ⟨fun e => by rcases e.1 with e | e; exact hx.1 e; omega, hx.2⟩
/-- A call on the device. -/
theorem PlSt.step (h : PlSt W4 O W p s zs u v L) (st : Step 69 O W p s zs' W') (hw : Wf s zs') : PlSt W4 (nextO O W W') W' p s zs' u v L := by
  obtain ⟨hd, ho⟩ := st
  have hu := h.ad
  have hv := h.row
  have hs := h.bel.size
  have hs2 := ho.size
  refine ⟨dv_mono hd (fun x hx hlt => ⟨?_, hlt⟩), hw, fun x hx => ⟨?_, hx.2⟩, ?_, ?_, h.bel.trans (ho.below hs (fun x hx => (h.o x hx).1))⟩
  · rcases hx with hx | hx
    · exact .inl hx
    · exact .inr hx.1
  · rcases hx.1 with hx | hx
    · exact (h.o x hx).1
    · omega
  · exact (hu.mono h.qo).out ho (fun r hr e => by have := hu.2 r hr; exact this.1 e)
  · obtain ⟨vs, r1, r2, _⟩ := id hv
    exact (hv.mono h.qo).out ho (fun r hr e => (r2 r hr).1 e) (fun c _ hc _ e => hc.1 ⟨.inl e, by have := (h.o c e).2; omega⟩)
/-- A place more is told. -/
theorem PlSt.bk {x : Value} {D : List Int} (h : PlSt W4 O W p s zs u v L) (ho : Out O W W') (hb : BkAt (QO W4 O) W x D) : BkAt (QO W4 (nextO O W W')) W' x D :=
  (hb.mono h.qo).out ho (fun c _ hc _ e => hc.1 ⟨.inl e, by have := (h.o c e).2; have := ho.size; omega⟩)
end
theorem addr_not {W : World} {u v : Value} {n m : Nat} {xs ys : List Value} (hu : W.ownsRow 0 59 2 u n xs) (hv : W.ownsRow 0 33 1 v m ys) {r : Nat} (e1 : u.ownBlock = some r) (e2 : v.ownBlock = some r) : False := by
  obtain ⟨c1, h1⟩ := own_at_block hu e1
  obtain ⟨c2, h2⟩ := own_at_block hv e2
  rw [h1] at h2
  cases h2
section
variable {W4 W w1 : World} {O : Nat → Prop} {p : Nat} {s : Sh} {zs : List Zn} {u v : Value} {L : List Pb}
/-- The place first. -/
theorem PlSt.place (h : PlSt W4 O W p s zs u v L) (a : Ad) (hl : L.length + 1 ≤ 100000) {x : Value} {D : List Int} (hx : BkAt (QO W4 O) W x D) :
    ∃ a' c' w', (Builtin.append_ #[54, 54] 54 #[u, .slice (some ⟨W.heap.size, 0, none⟩) 1 1]).run Try.prog (W.alloc (.cells #[.int .i64 a.1, .int .i64 a.2] 59)) = .ok (.slice a' (L.length + 1) c') w' ∧
      Dv 69 O w' p s zs ∧ (∀ x, O x → x < w'.heap.size) ∧ AdAt (QO W4 O) w' (.slice a' (L.length + 1) c') (L.map (·.1) ++ [a]) ∧ RowAt (QO W4 O) w' v (L.map (·.2)) ∧ BkAt (QO W4 O) w' x D ∧ Below W4.heap.size W4 w' := by
  obtain ⟨a', c', w', hr, had, hout, _⟩ := app_ad h.ad a (by simpa using hl) h.new
  simp only [List.length_map] at hr had
  obtain ⟨vs, r1, r2, r3, _⟩ := id h.row
  refine ⟨a', c', w', hr, dv_out h.dv hout (fun x hx e => (h.ad.2 x e).1 hx), fun x hx => Nat.lt_of_lt_of_le (h.o x hx).2 hout.size, had, h.row.out hout (fun r e1 e2 => addr_not h.ad.1 r1 e2 e1) (fun c cur _ hc e => ?_), hx.out hout (fun c cur _ hc e => ?_), h.bel.trans (hout.below h.bel.size (fun x e => (h.ad.2 x e).2))⟩
  · obtain ⟨c1, h1⟩ := own_at_block h.ad.1 e
    rw [hc] at h1; cases h1
  · obtain ⟨c1, h1⟩ := own_at_block h.ad.1 e
    rw [hc] at h1; cases h1
/-- Then the block. -/
theorem place_block {U x : Value} {D : List Int} {a : Ad} (hd : Dv 69 O w1 p s zs) (hw : Wf s zs) (ho : ∀ x, O x → W4.heap.size ≤ x ∧ x < w1.heap.size) (hu : AdAt (QO W4 O) w1 U (L.map (·.1) ++ [a])) (hv : RowAt (QO W4 O) w1 v (L.map (·.2))) (hx : BkAt (QO W4 O) w1 x D) (h1 : x.oneCell' = true) (hb : Below W4.heap.size W4 w1) (hl : L.length + 1 ≤ 100000) :
    ∃ a' c' w', (Builtin.append_ #[47, 47] 47 #[v, .slice (some ⟨w1.heap.size, 0, none⟩) 1 1]).run Try.prog (w1.alloc (.cells #[x] 33)) = .ok (.slice a' (L.length + 1) c') w' ∧ PlSt W4 O w' p s zs U (.slice a' (L.length + 1) c') (L ++ [(a, D)]) := by
  obtain ⟨a', c', w', hr, hrow, hg, _⟩ := app_row hv hx h1 (by simpa using hl) (fun k hk => ⟨fun e => by have := (ho k e).2; omega, by have := hb.size; omega⟩)
  simp only [List.length_map] at hr hrow
  obtain ⟨vs, r1, r2, r3, _⟩ := id hv
  have hout : Out (fun x => v.ownBlock = some x) w1 w' := ((Out.refl (fun x => v.ownBlock = some x) w1).alloc _).grown hg (fun k e => .inl e)
  refine ⟨a', c', w', hr, ⟨dv_out hd hout (fun x hx e => (r2 x e).1 hx), hw, fun x hx => ⟨(ho x hx).1, Nat.lt_of_lt_of_le (ho x hx).2 hout.size⟩, ?_, ?_, hb.trans (hout.below hb.size (fun x e => (r2 x e).2))⟩⟩
  · rw [List.map_append]
    exact hu.out hout (fun r e1 e2 => addr_not hu.1 r1 e1 e2)
  · rw [List.map_append]; exact hrow
end
theorem rd_snoc {zs : List Zn} {L : List Pb} {a : Ad} {D : List Int} (h : ∀ q ∈ L, Rd zs q.1 q.2) (hn : Rd zs a D) : ∀ q ∈ L ++ [(a, D)], Rd zs q.1 q.2 := by
  intro q hq
  rcases List.mem_append.1 hq with h' | h'
  · exact h q h'
  · rw [List.mem_singleton.1 h']; exact hn
/-- One block of a row. -/
theorem row_cell {O : Nat → Prop} {W : World} {a : Option Addr} {n c : Nat} {bs : List (List Int)} (h : RowAt O W (.slice a n c) bs) {i : Nat} {D : List Int} (hD : bs[i]? = some D) : ∃ g A C, a = some ⟨g, 0, none⟩ ∧ W.cell? ⟨g, i, none⟩ = some (.slice A D.length C) ∧ BkAt O W (.slice A D.length C) D := by
  obtain ⟨vs, h1, h2, h3, h4⟩ := h
  have hi := (List.getElem?_eq_some_iff.1 hD).1
  obtain ⟨v, hv⟩ : ∃ v, vs[i]? = some v := ⟨vs[i]'(by rw [h3.1]; exact hi), by simp [h3.1, hi]⟩
  have hb := h3.2 i v D hv hD
  obtain ⟨A, C, rfl⟩ := own_slice hb.1
  rcases h1.2 with ⟨_, hz⟩ | ⟨g, cap, cur, hv', _⟩
  · omega
  · cases hv'
    have hcl := h1.cells (g := g) rfl i _ hv
    rw [Addr.add_mid, Nat.zero_add] at hcl
    exact ⟨g, A, C, rfl, hcl, hb⟩

/-! ### What is left when a zone is emptied -/
def keepZ (zn : Int) (L : List Pb) : List Pb := L.filter (fun q => decide (q.1.1 ≠ zn))
theorem keepZ_yes {zn : Int} {L : List Pb} {j : Nat} {q : Pb} (hq : L[j]? = some q) (h : q.1.1 ≠ zn) : keepZ zn (L.take (j + 1)) = keepZ zn (L.take j) ++ [q] := by
  rw [take_snoc hq]; simp [keepZ, h]
theorem keepZ_no {zn : Int} {L : List Pb} {j : Nat} {q : Pb} (hq : L[j]? = some q) (h : q.1.1 = zn) : keepZ zn (L.take (j + 1)) = keepZ zn (L.take j) := by
  rw [take_snoc hq]; simp [keepZ, h]
theorem keepZ_len (zn : Int) (L : List Pb) : (keepZ zn L).length ≤ L.length := List.length_filter_le _ _
/-- The lists that are being made anew: places in a row made since, blocks in a row made since. -/
structure KpSt (W4 w0 : World) (O : Nat → Prop) (u v : Value) (M : List Pb) (W : World) : Prop where
  ad : AdAt (fun x => w0.heap.size ≤ x) W u (M.map (·.1))
  row : RowAt (QO W4 O) W v (M.map (·.2))
  own : ∀ r, v.ownBlock = some r → w0.heap.size ≤ r
  bel : Below w0.heap.size w0 W
theorem KpSt.under {W4 w0 W W' : World} {O : Nat → Prop} {u v : Value} {M : List Pb} (h : KpSt W4 w0 O u v M W) (hb : Below W.heap.size W W') : KpSt W4 w0 O u v M W' :=
  ⟨h.ad.under hb, h.row.out (below_out Non hb) (fun _ _ e => e) (fun _ _ _ _ e => e), h.own, h.bel.trans (hb.mono h.bel.size)⟩
/-- They are the lists then. -/
theorem KpSt.pl {W4 w0 W : World} {O : Nat → Prop} {p : Nat} {s : Sh} {zs : List Zn} {u v u2 v2 : Value} {M L : List Pb} (h : KpSt W4 w0 O u2 v2 M W) (k : PlSt W4 O w0 p s zs u v L) : PlSt W4 O W p s zs u2 v2 M :=
  have g := k.under h.bel
  ⟨g.dv, g.wf, g.o, h.ad.mono (fun x hx _ => ⟨fun e => by have := (k.o x e).2; omega, by have := k.bel.size; omega⟩), h.row, g.bel⟩
theorem keepZ_rd {zs : List Zn} {L : List Pb} {zn : Int} (h : ∀ q ∈ L, Rd zs q.1 q.2) : ∀ q ∈ keepZ zn L, Rd (resetZ zs zn) q.1 q.2 := by
  intro q hq
  have := List.mem_filter.1 hq
  exact rd_reset (h q this.1) (by simpa using this.2)
theorem KpSt.place {W4 w0 W : World} {O : Nat → Prop} {u v : Value} {M : List Pb} (h : KpSt W4 w0 O u v M W) (a : Ad) (hl : M.length + 1 ≤ 100000) :
    ∃ a' c' w', (Builtin.append_ #[54, 54] 54 #[u, .slice (some ⟨W.heap.size, 0, none⟩) 1 1]).run Try.prog (W.alloc (.cells #[.int .i64 a.1, .int .i64 a.2] 59)) = .ok (.slice a' (M.length + 1) c') w' ∧
      AdAt (fun x => w0.heap.size ≤ x) w' (.slice a' (M.length + 1) c') (M.map (·.1) ++ [a]) ∧ RowAt (QO W4 O) w' v (M.map (·.2)) ∧ Below w0.heap.size w0 w' := by
  obtain ⟨a', c', w', hr, had, hout, _⟩ := app_ad h.ad a (by simpa using hl) (fun k hk => by have := h.bel.size; omega)
  simp only [List.length_map] at hr had
  obtain ⟨vs, r1, r2, r3, _⟩ := id h.row
  refine ⟨a', c', w', hr, had, h.row.out hout (fun r e1 e2 => addr_not h.ad.1 r1 e2 e1) (fun c cur _ hc e => ?_), h.bel.trans (hout.below h.bel.size (fun x e => h.ad.2 x e))⟩
  obtain ⟨c1, h1⟩ := own_at_block h.ad.1 e
  rw [hc] at h1; cases h1
theorem keep_block {W4 w0 w1 : World} {O : Nat → Prop} {U v x : Value} {M : List Pb} {D : List Int} {a : Ad} (hu : AdAt (fun x => w0.heap.size ≤ x) w1 U (M.map (·.1) ++ [a])) (hv : RowAt (QO W4 O) w1 v (M.map (·.2))) (hown : ∀ r, v.ownBlock = some r → w0.heap.size ≤ r) (hx : BkAt (QO W4 O) w1 x D) (h1 : x.oneCell' = true) (hb : Below w0.heap.size w0 w1) (hl : M.length + 1 ≤ 100000) (hO : ∀ k, w1.heap.size ≤ k → QO W4 O k) :
    ∃ a' c' w', (Builtin.append_ #[47, 47] 47 #[v, .slice (some ⟨w1.heap.size, 0, none⟩) 1 1]).run Try.prog (w1.alloc (.cells #[x] 33)) = .ok (.slice a' (M.length + 1) c') w' ∧ KpSt W4 w0 O U (.slice a' (M.length + 1) c') (M ++ [(a, D)]) w' := by
  obtain ⟨a', c', w', hr, hrow, hg, hf⟩ := app_row hv hx h1 (by simpa using hl) hO
  simp only [List.length_map] at hr hrow hf
  obtain ⟨vs, r1, r2, r3, _⟩ := id hv
  have hout : Out (fun x => v.ownBlock = some x) w1 w' := ((Out.refl (fun x => v.ownBlock = some x) w1).alloc _).grown hg (fun k e => .inl e)
  refine ⟨a', c', w', hr, ⟨by rw [List.map_append]; exact hu.out hout (fun r e1 e2 => addr_not hu.1 r1 e1 e2), by rw [List.map_append]; exact hrow, fun r e => ?_, hb.trans (hout.below hb.size (fun x e => hown x e))⟩⟩
  rcases hf with hf | hf
  · exact hown r (by rw [← hf]; exact e)
  · have := hf r e; have := hb.size; omega
end Go.Proofs.Ytlkpglppkpalgaa
