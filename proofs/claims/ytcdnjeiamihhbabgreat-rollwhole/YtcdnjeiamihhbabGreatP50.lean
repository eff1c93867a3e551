/- P50 -/
import Derived.Test.YtcdnjeiamihhbabGreatP49
set_option linter.unusedVariables false
set_option maxRecDepth 4000
namespace Go.Proofs.YtcdnjeiamihhbabGreat
open Go.RowKit Go.Sort Go.Lib Go.Shelf
section
theorem foC_bang (xs : List Fo) (j : Nat) (h : j < xs.length * 4) : (foC xs)[j]? = some ((foL xs.toArray[j / 4]!)[j % 4]!) := by
 have hi : j / 4 < xs.length := by omega
 have hx : xs[j / 4]? = some xs[j / 4] := List.getElem?_eq_getElem hi
 have := foC_at xs (j / 4) _ (j % 4) hx (by omega)
 have e : j / 4 * 4 + j % 4 = j := by omega
 rw [e] at this
 rw [this]
 have e2 : xs.toArray[j / 4]! = xs[j / 4] := by simp [hi]
 rw [e2]
 have h2 : j % 4 = 0 ∨ j % 4 = 1 ∨ j % 4 = 2 ∨ j % 4 = 3 := by omega
 rcases h2 with h2 | h2 | h2 | h2 <;> rw [h2] <;> rfl
theorem foHolds_of {w : World} {g : Nat} {cur : Array Value} {e : TypeId} {xs : List Fo} (hb : w.heap[g]? = some (.cells cur e (0, 0))) (ht : cur.toList.take (xs.length * 4) = foC xs) : HoldsK foL 4 w g 0 xs.toArray := by
 intro j hj
 have hj' : j < xs.length * 4 := by simpa using hj
 refine ⟨?_, by simp [World.frozen?, hb]⟩
 have h1 : (cur.toList.take (xs.length * 4))[j]? = (foC xs)[j]? := by rw [ht]
 rw [List.getElem?_take_of_lt hj', foC_bang xs j hj'] at h1
 rw [get_flatK _ _ _ _ (by simpa using hj')]
 simp only [World.cell?, hb, Nat.zero_add]
 simp only [Option.isSome_none, Bool.false_eq_true, if_false]
 rw [← Array.getElem?_toList, h1]
 rfl
theorem foHeap_sorted {w : World} {g n : Nat} {os : Array Obj} {cur : Array Value} {e : TypeId} {fr : Nat × Nat} (d : Array Fo) (hb : w.heap[g]? = some (.cells cur e fr)) :
  (sortWorldK foL 4 w g 0 n d os).heap[g]? = some (.cells (putCells id 0 (flatK foL 4 d) cur) e fr) := by
 have hg : g < w.heap.size := (Array.getElem?_eq_some_iff.1 hb).1
 unfold sortWorldK putRowK
 rw [heap_grow_old _ _ (by simpa using hg)]
 simp [putRow, mapBlock, Sort.ahead, Array.getElem?_modify, hb, onCells]
theorem foGrown_sorted {w : World} {g n : Nat} {os : Array Obj} (d : Array Fo) : w.grownBy (sortWorldK foL 4 w g 0 n d os) (some g) := by
 unfold sortWorldK putRowK
 refine ⟨rfl, rfl, rfl, by simp, fun k hk hne => ?_⟩
 rw [heap_grow_old _ _ (by simpa using hk)]
 have : g ≠ k := fun e => hne (by rw [e])
 simp [putRow, mapBlock, Sort.ahead, Array.getElem?_modify, this]
theorem foTake_put (cur : Array Value) (ts : List Fo) (h : ts.length * 4 ≤ cur.size) : (putCells id 0 (flatK foL 4 ts.toArray) cur).toList.take (ts.length * 4) = foC ts := by
 apply List.ext_getElem?
 intro j
 by_cases hj : j < ts.length * 4
 ·rw [List.getElem?_take_of_lt hj, Array.getElem?_toList, foC_bang ts j hj]
  have hf := get_flatK foL 4 ts.toArray j (by simpa using hj)
  have hc : j < cur.size := by omega
  unfold putCells
  rw [Array.getElem?_mapIdx, Array.getElem?_eq_getElem hc]
  simp only [Option.map_some, Nat.zero_le, true_and, Nat.zero_add, Nat.sub_zero, id]
  rw [if_pos (by simpa using hj), hf]
 ·rw [List.getElem?_take_eq_none (by omega), List.getElem?_eq_none (by rw [foC_length]; omega)]
theorem foSort_own {w : World} {base g cap n : Nat} {e : TypeId} {os : Array Obj} {xs ts : List Fo} (h : w.ownsRow base e 4 (.slice (some ⟨g, 0, none⟩) xs.length cap) xs.length (foC xs)) (hl : ts.length = xs.length) :
  (sortWorldK foL 4 w g 0 n ts.toArray os).ownsRow base e 4 (.slice (some ⟨g, 0, none⟩) xs.length cap) xs.length (foC ts) := by
 rcases h.2 with ⟨hv, _⟩ | ⟨g', cap', cur, hv, h1, h2, h3, h4, h5, h6⟩
 ·cases hv
 ·cases hv
  refine ⟨by rw [foC_length, hl], .inr ⟨g, cap, _, rfl, h1, foHeap_sorted _ h2, h3, h4, by simp [putCells, h5], ?_⟩⟩
  rw [← hl]
  exact foTake_put cur ts (by rw [h5, hl]; omega)
theorem foOwn_holds {w : World} {base g cap : Nat} {e : TypeId} {xs : List Fo} (h : w.ownsRow base e 4 (.slice (some ⟨g, 0, none⟩) xs.length cap) xs.length (foC xs)) : HoldsK foL 4 w g 0 xs.toArray ∧ g < w.heap.size := by
 rcases h.2 with ⟨hv, _⟩ | ⟨g', cap', cur, hv, h1, h2, h3, h4, h5, h6⟩
 ·cases hv
 ·cases hv
  exact ⟨foHolds_of h2 h6, (Array.getElem?_eq_some_iff.1 h2).1⟩
/-- A sorted row, as lists. -/
theorem foSorted {xs : List Fo} {d' : Array Fo} (hp : PermIn 0 xs.toArray.size xs.toArray d') (hs : SortedIn (ltOf cfO) 0 xs.toArray.size d') : d'.toList.Perm xs ∧ d'.toList.Pairwise (fun x y => ltO y x = false) := by
 obtain ⟨h1, _, h3⟩ := hp
 have hsz : d'.size = xs.length := by simpa using h1
 have e1 : (d'.extract 0 xs.toArray.size).toList = d'.toList := by simp [← hsz]
 have e2 : (xs.toArray.extract 0 xs.toArray.size).toList = xs := by simp
 rw [e1, e2] at h3
 refine ⟨h3, ?_⟩
 rw [List.pairwise_iff_getElem]
 intro i j hi hj hij
 have := hs i j (Nat.zero_le _) hij (by simpa [hsz] using hj)
 rw [cfO_lt] at this
 have hi' : i < d'.size := by simpa using hi
 have hj' : j < d'.size := by simpa using hj
 rw [getElem!_pos d' i hi', getElem!_pos d' j hj'] at this
 simpa using this
theorem sortO_none (w : World) : Calls Tryz.prog 93 #[.slice none 0 0, .func (.func 94) #[] #[]] w fun e w' => e = .returned (.tuple #[]) ∧ w' = w := AnyF.slices_SortFunc_none Tryz.sortO none 0 (.func (.func 94) #[] #[]) w
/-- What newer tells. -/
def NwGot (zs : List Zn) (q : Int) (W : World) (e : Ending) (w' : World) : Prop := ∃ A n C l, e = .returned (.slice A n C) ∧ FoIn w' A n l ∧ (l.map foK).Perm (newTo zs q zs.length) ∧ l.Pairwise (fun x y => ltO y x = false) ∧ (∀ f ∈ l, ItsIn w' f.a f.m (foX zs f) ∧ (f.m ≠ 0 → ∀ y, f.a.map (·.block) = some y → W.heap.size ≤ y)) ∧ (n ≠ 0 → ∀ y, A.map (·.block) = some y → W.heap.size ≤ y) ∧ Below W.heap.size W w'
theorem scanP_len (zs : List Zn) (z : Int) : ∀ f i, (scanP zs z f i).length ≤ f
 | 0, _ => Nat.le_refl _
 | f + 1, i => by
  unfold scanP
  split
  ·have := scanP_len zs z f ‹_›
   simp only [List.length_cons]
   omega
  ·exact Nat.zero_le _
theorem scanL_len {s : Sh} {zs : List Zn} (hw : Wf s zs) (k : Nat) (hk : k < zs.length) : (scanL zs (k : Nat)).length ≤ 4096 := by
 have h1 := scanP_len zs (k : Nat) (atZ zs (k : Nat)).1.length 0
 have hz := hw.zone (zs[k]) (List.getElem_mem hk)
 have h3 := hw.right.2.2.2.1
 have h5 : (atZ zs (k : Int)).1 = (zs[k]).1 := by
  unfold atZ
  rw [if_pos (by omega)]
  simp [List.getD, hk]
 have h6 := hz.1
 unfold scanL
 rw [h5] at h1 ⊢
 omega
section
variable {zs : List Zn} {W w : World} {A : Option Addr} {n C : Nat} {l : List Fo} {q : Int}
theorem nw_sorts (h : NwR zs W.heap.size W w A n C l) (hq : W.heap.size ≤ w.heap.size) (he : l.map foK = newTo zs q zs.length) (hn : n < 1000000) :
  Calls Tryz.prog 93 #[.slice A n C, .func (.func 94) #[] #[]] w fun e w' => e = .returned (.tuple #[]) ∧ NwGot zs q W (.returned (.slice A n C)) w' := by
 obtain ⟨h1, r1, h2, h3, h4⟩ := h
 by_cases h0 : n = 0
 ·subst h0
  have hl : l = [] := List.length_eq_zero_iff.1 h1
  subst hl
  rcases r1.2 with ⟨hv, _⟩ | ⟨g, cap, cur, hv, hb, hg, hc, hcm, hsz, htake⟩
  ·cases hv
   refine (sortO_none w).mono ?_
   rintro e w' ⟨rfl, rfl⟩
   exact ⟨rfl, none, 0, 0, [], rfl, ⟨rfl, by simp, .inl rfl⟩, by rw [he], by simp, by simp, by simp, h4⟩
  ·cases hv
   have ho := foOwn_holds (xs := []) r1
   refine (sortO_of g C #[] w ho.1 ho.2 (by simp)).mono ?_
   rintro e w' ⟨rfl, d', n', os, hp, hs, rfl⟩
   refine ⟨rfl, _, 0, _, [], rfl, ⟨rfl, by simp, .inl rfl⟩, by rw [he], by simp, by simp, by simp, ?_⟩
   exact (Out.refl (fun j => some g = some j) w).grown (foGrown_sorted d') (fun j hj => .inl hj) |>.below hq (fun j hj => h3 j hj) |> h4.trans
 ·obtain ⟨g, hA, _⟩ := own_each r1 (by omega)
  subst hA
  have hls : l.toArray.size = n := by simpa using h1
  subst h1
  have ho := foOwn_holds r1
  have hsO := sortO_of g C l.toArray w ho.1 ho.2 (by simpa using hn)
  rw [hls] at hsO
  refine hsO.mono ?_
  rintro e w' ⟨rfl, d', n', os, hp, hs, rfl⟩
  obtain ⟨p1, p2⟩ := foSorted (xs := l) (by rw [hls]; exact hp) (by rw [hls]; exact hs)
  have hout := (Out.refl (fun j => some g = some j) w).grown (foGrown_sorted (n := n') (os := os) d') (fun j hj => .inl hj)
  have ow := foSort_own (n := n') (os := os) (ts := d'.toList) r1 p1.length_eq
  rw [Array.toArray_toList] at ow
  refine ⟨rfl, _, l.length, _, d'.toList, rfl, ⟨p1.length_eq, by unfold maxLen; omega, .inr ⟨g, 0, rfl, fun i f hf j v hv => ?_⟩⟩, ?_, p2, fun f hf => ?_, fun _ y hy => h3 y hy, h4.trans (hout.below hq (fun j hj => h3 j hj))⟩
  ·obtain ⟨g', hg', hc'⟩ := own_each ow (by omega)
   cases hg'
   have hj4 : j < 4 := by
    have := (List.getElem?_eq_some_iff.1 hv).1
    simpa [foL] using this
   rw [Nat.zero_add]
   exact hc' _ v (by rw [foC_at _ i f j hf hj4]; exact hv)
  ·rw [← he]
   exact p1.map foK
  ·have hfl := h2 f (p1.mem_iff.1 hf)
   exact ⟨hfl.1.outO hout (fun hm y hy e => (hfl.2 hm y hy).2 e), fun hm y hy => (hfl.2 hm y hy).1⟩
end
end
section
section
variable {O : Nat → Prop} {W : World} {p : Nat} {s : Sh} {zs : List Zn}
set_option maxHeartbeats 4000000 in
theorem onewer_of (q : Int) (hd : Dv 105 O W p s zs) (hw : Wf s zs) (hN : (newTo zs q zs.length).length ≤ 100000) :
  Calls Tryz.prog 49 #[.pointer (some ⟨p, 0, none⟩), .int .u64 q] W (NwGot zs q W) := by
 obtain ⟨Z, hZ⟩ : ∃ Z : Nat, s.z = Z := ⟨s.z.toNat, by have := hw.right.1; omega⟩
 have hZl : zs.length = Z := by have := hw.len; omega
 have hZ6 : 6 ≤ Z ∧ Z ≤ 256 := by have := hw.right.1; have := hw.right.2.1; omega
 have HSh : Hid (∀ V, Below W.heap.size W V → Calls Tryz.prog 28 #[.pointer (some ⟨p, 0, none⟩)] V fun e w' => e = .returned (.agg #[.int .i64 (Z : Nat), .int .i64 s.zb, .int .i64 s.b, .int .i64 s.r]) ∧ Below V.heap.size V w') := fun V hV => by rw [← hZ]; exact dshape_of (hd.later hV)
 have HSc : Hid (∀ V (z : Nat), Below W.heap.size W V → Calls Tryz.prog 10 #[.pointer (some ⟨p, 0, none⟩), .int .i64 (z : Nat)] V (ScGot V zs (z : Nat))) := fun V z hV => oscan_of _ (hd.later hV) hw
 have hfn := Tryz.shape_o (.int .i64 (Z : Nat)) (.int .i64 s.zb) (.int .i64 s.b) (.int .i64 s.r)
 have HQ : Hid (∀ k : Nat, k < Z → (scanL zs (k : Nat)).length ≤ 4096) := fun k hk => scanL_len hw k (by omega)
 have HN : Hid ((newTo zs q Z).length ≤ 100000) := by show _ ≤ _; rw [← hZl]; exact hN
 have HZl : Hid (zs.length = Z) := hZl
 clear hd hw hZ hZl hN
 go_enter Tryz.func49, Tryz.ntmps49
 go_wp2_with fail
 go_loopw [5, 6] (fun v x wr => ∃ (k n C : Nat) (A : Option Addr) (l : List Fo), x = .int .i64 k ∧ v = .slice A n C ∧ 2 ≤ k ∧ k ≤ Z ∧ NwR zs W.heap.size W wr A n C l ∧ l.map foK = newTo zs q k) (fun _ x _ => Z - (intOf x).toNat)
 case atStart => exact ⟨2, 0, 0, none, [], rfl, rfl, Nat.le_refl _, by omega, NwR.start _ _ (Below.refl _ _), by rw [newTo_two]; rfl⟩
 case round =>
  obtain ⟨k, n, C, A, l, rfl, rfl, h2, hk, nw, he⟩ := hrel
  rcases Nat.lt_or_ge k Z with hlt | hge
  ·have hk' : (k : Int) < Z := by omega
   have hwk : IntKind.i64.wrap ((k : Int) + 1) = (k : Int) + 1 := by rw [IntKind.wrap_i64]; omega
   have H0 : Hid (NwR zs W.heap.size W wr A n C l ∧ l.map foK = newTo zs q k ∧ 2 ≤ k ∧ k < Z) := ⟨nw, he, h2, hlt⟩
   clear nw he
   go_wp2_with (first
     | (go_at_call 28; refine (HSh.out _ H0.out.1.bel).mono ?_; rintro e w1 ⟨rfl, hb1⟩; have hbW1 := H0.out.1.bel.trans (hb1.mono H0.out.1.bel.size))
     | (go_at_call 10; refine (HSc.out _ k hbW1).mono ?_; rintro e w2 ⟨Ar, Cr, B, cB, nr, rfl, sc⟩))
   have HI0 : Hid (NwI zs W.heap.size W w2 A n C l Ar Cr B cB nr (scanL zs (k : Nat)) k) := NwI.start (H0.out.1.below H0.out.1.bel.size hb1) hbW1.size sc
   clear sc hb1
   go_loopw [5, 26] (fun v x wr => ∃ (i n' C' : Nat) (A' : Option Addr) (l' : List Fo), x = .int .i64 i ∧ v = .slice A' n' C' ∧ i ≤ nr ∧ NwI zs W.heap.size W wr A' n' C' l' Ar Cr B cB nr (scanL zs (k : Nat)) k ∧ l'.map foK = newTo zs q k ++ newrZ zs q k ((scanL zs (k : Nat)).take i)) (fun _ x _ => nr - (intOf x).toNat)
   case atStart => exact ⟨0, n, C, A, l, rfl, rfl, Nat.zero_le _, HI0.out, by rw [H0.out.2.1]; simp [newrZ]⟩
   case round =>
    obtain ⟨i, n', C', A', l', rfl, rfl, hi, ni, hl'⟩ := hrel
    have hnr : nr ≤ 100000 := by have h1 := HQ.out k H0.out.2.2.2; have h2 := ni.ln; omega
    have hn' : n' + 1 ≤ 1000000 := by
     have h1 := ni.nw.ln
     have h2 : l'.length = (l'.map foK).length := by simp
     have h3 := newrZ_take zs q k (scanL zs (k : Nat)) i
     have h4 := newTo_le zs q (k := k + 1) (k' := Z) (by omega)
     have h5 := HN.out
     rw [newTo_step H0.out.2.2.1, List.length_append] at h4
     rw [hl', List.length_append] at h2
     omega
    rcases Nat.lt_or_ge i nr with hlt2 | hge2
    ·have hi' : (i : Int) < nr := by omega
     have hwi : IntKind.i64.wrap ((i : Int) + 1) = (i : Int) + 1 := by rw [IntKind.wrap_i64]; omega
     obtain ⟨b, a, m, c, g, g2, hb, rfl, rfl, y0, y1, y2, hit, hfr⟩ := ni.at hlt2
     obtain ⟨S, hS⟩ : ∃ S, S = decS (elB zs (k : Nat) b) := ⟨_, rfl⟩
     rw [← hS] at y0
     have HB : NwI zs W.heap.size W (wr.alloc (.cells #[.int .u64 S, .slice a m c] 47)) A' n' C' l' (some ⟨g, 0, none⟩) Cr (some ⟨g2, 0, none⟩) cB nr (scanL zs (k : Nat)) k ∧ Blk (wr.alloc (.cells #[.int .u64 S, .slice a m c] 47)) wr.heap.size [.int .u64 S, .slice a m c] 47 ∧ ItsIn (wr.alloc (.cells #[.int .u64 S, .slice a m c] 47)) a m (decX (elB zs (k : Nat) b)) ∧ (wr.alloc (.cells #[.int .u64 S, .slice a m c] 47)).cell? ⟨g2, i, none⟩ = some (.int .i64 (b : Nat)) := ⟨ni.below (below_a1 _ _), Blk.new' rfl rfl, hit.below (below_a1 _ _), by rw [World.cell?_of_block (w := wr) ((below_a1 wr _).block g2 (old_block y2))]; exact y2⟩
     have HC : Hid (S = decS (elB zs (k : Nat) b) ∧ (scanL zs (k : Nat))[i]? = some b ∧ n' + 1 ≤ 1000000 ∧ l'.map foK = newTo zs q k ++ newrZ zs q k ((scanL zs (k : Nat)).take i) ∧ (m ≠ 0 → ∀ y, a.map (·.block) = some y → W.heap.size ≤ y ∧ ¬ (Value.slice A' n' C').ownBlock = some y)) := ⟨hS, hb, hn', hl', fun hm y hy => ⟨(hfr hm y hy).1, (hfr hm y hy).2.2⟩⟩
     clear hS hb hn' hl' hfr hit ni y2
     have HBh : Hid (NwI zs W.heap.size W (wr.alloc (.cells #[.int .u64 S, .slice a m c] 47)) A' n' C' l' (some ⟨g, 0, none⟩) Cr (some ⟨g2, 0, none⟩) cB nr (scanL zs (k : Nat)) k ∧ ItsIn (wr.alloc (.cells #[.int .u64 S, .slice a m c] 47)) a m (decX (elB zs (k : Nat) b))) := ⟨HB.1, HB.2.2.1⟩
     have y2 := HB.2.2.2
     clear HB
     by_cases h0 : q < S
     ·have HF : Hid (newrZ zs q k ((scanL zs (k : Nat)).take (i + 1)) = newrZ zs q k ((scanL zs (k : Nat)).take i) ++ [(S, ((k : Nat) : Int), ((b : Nat) : Int))]) := by
       show _ = _
       rw [take_snoc HC.out.2.1, newrZ_snoc, if_pos (by rw [← HC.out.1]; exact h0), ← HC.out.1]
      have HL : Hid (∀ a9 c9 w9, NwI zs W.heap.size W w9 a9 (n' + 1) c9 (l' ++ [⟨S, a, m, c, (k : Nat), (b : Nat)⟩]) (some ⟨g, 0, none⟩) Cr (some ⟨g2, 0, none⟩) cB nr (scanL zs (k : Nat)) k → NwI zs W.heap.size W w9 a9 (n' + 1) c9 (l' ++ [⟨S, a, m, c, (k : Nat), (b : Nat)⟩]) (some ⟨g, 0, none⟩) Cr (some ⟨g2, 0, none⟩) cB nr (scanL zs (k : Nat)) k ∧ (l' ++ [(⟨S, a, m, c, (k : Nat), (b : Nat)⟩ : Fo)]).map foK = newTo zs q k ++ newrZ zs q k ((scanL zs (k : Nat)).take (i + 1))) := fun a9 c9 w9 n9 => ⟨n9, by rw [HF.out, List.map_append, HC.out.2.2.2.1, List.append_assoc]; rfl⟩
      have kY : Blk (wr.alloc (.cells #[.int .u64 S, .slice a m c] 47)) wr.heap.size [.int .u64 S, .slice a m c] 47 := Blk.new' rfl rfl
      clear HF
      go_wp2_with fail
      generalize World.alloc wr _ = Y at HBh y2 kY ⊢
      generalize wr.heap.size = ga at kY ⊢
      have x0 : Y.cell? ⟨ga, 0, none⟩ = some (.int .u64 S) := kY.cell 0
      have x1 : Y.cell? ⟨ga, 1, none⟩ = some (.slice a m c) := kY.cell 1
      have d0 : Y.drew.cell? ⟨ga, 0, none⟩ = some (.int .u64 S) := kY.cell 0
      have d1 : Y.drew.cell? ⟨ga, 1, none⟩ = some (.slice a m c) := kY.cell 1
      have d2 : Y.drew.cell? ⟨g2, i, none⟩ = some (.int .i64 (b : Nat)) := y2
      have bD : Below Y.heap.size Y Y.drew := (Below.refl _ _).drew
      have HD : Hid (NwI zs W.heap.size W Y.drew A' n' C' l' (some ⟨g, 0, none⟩) Cr (some ⟨g2, 0, none⟩) cB nr (scanL zs (k : Nat)) k ∧ ItsIn Y.drew a m (decX (elB zs (k : Nat) b))) := ⟨HBh.out.1.below bD, HBh.out.2.below bD⟩
      clear bD kY
      have HK : Hid (Blk (Y.drew.alloc (.cells #[.int .u64 S, .slice a m c, .int .i64 (k : Nat), .int .i64 (b : Nat)] 94)) Y.drew.heap.size [.int .u64 S, .slice a m c, .int .i64 (k : Nat), .int .i64 (b : Nat)] 94) := Blk.new' rfl rfl
      go_region_law (refine step_found (S := S) (a := a) (m := m) (c := c) (b := b) rfl (.tmp 35) (.tmp 44) rfl rfl rfl rfl HD.out.1 (below_a1 _ _) HD.out.2 HC.out.2.2.2.2 HC.out.2.2.1 (fun j u hj => (HK.out.cell j).trans hj) ?_; intro a9 c9 w9 n9; have HZ : Hid (NwI zs W.heap.size W w9 a9 (n' + 1) c9 (l' ++ [⟨S, a, m, c, (k : Nat), (b : Nat)⟩]) (some ⟨g, 0, none⟩) Cr (some ⟨g2, 0, none⟩) cB nr (scanL zs (k : Nat)) k ∧ (l' ++ [(⟨S, a, m, c, (k : Nat), (b : Nat)⟩ : Fo)]).map foK = newTo zs q k ++ newrZ zs q k ((scanL zs (k : Nat)).take (i + 1))) := HL.out _ _ _ n9; clear n9)
      all_goals (
       go_wp2
       exact ⟨⟨i + 1, n' + 1, c9, a9, _, by simp, rfl, by omega, HZ.out.1, HZ.out.2⟩, by simp [intOf]; omega⟩)
     ·have HF : Hid (newrZ zs q k ((scanL zs (k : Nat)).take (i + 1)) = newrZ zs q k ((scanL zs (k : Nat)).take i)) := by
       show _ = _
       rw [take_snoc HC.out.2.1, newrZ_snoc, if_neg (by rw [← HC.out.1]; exact h0)]
      go_wp2
      exact ⟨⟨i + 1, n', C', A', l', by simp, rfl, by omega, HBh.out.1, by rw [HF.out]; exact HC.out.2.2.2.1⟩, by simp [intOf]; omega⟩
    ·obtain rfl : i = nr := by omega
     have hi' : ¬ (i : Int) < i := by omega
     have HZ : Hid (NwR zs W.heap.size W wr A' n' C' l' ∧ l'.map foK = newTo zs q (k + 1)) := ⟨ni.nw, by rw [hl', newTo_step H0.out.2.2.1, List.take_of_length_le (by have := ni.ln; omega)]⟩
     clear ni hl'
     go_wp2
     first
      | exact ⟨⟨k + 1, n', C', A', l', by simp, rfl, by omega, by omega, HZ.out.1, HZ.out.2⟩, by simp [intOf]; omega⟩
      | (go_roundw
         case rel => exact ⟨k + 1, n', C', A', l', by simp, rfl, by omega, by omega, HZ.out.1, HZ.out.2⟩
         case measure => simp [intOf]; omega)
      | (trace_state; sorry)
  ·obtain rfl : k = Z := by omega
   have hk' : ¬ (k : Int) < k := by omega
   have HF : Hid (NwR zs W.heap.size W wr A n C l ∧ l.map foK = newTo zs q zs.length ∧ n < 1000000) := ⟨nw, by rw [HZl.out]; exact he, by
    have h1 := nw.ln
    have h2 : l.length = (l.map foK).length := by simp
    have h3 := HN.out
    rw [he] at h2
    omega⟩
   clear nw he
   go_wp2_with (first
    | (go_at_call 28; refine (HSh.out _ HF.out.1.bel).mono ?_; rintro e w1 ⟨rfl, hb1⟩)
    | (go_at_call 93; refine (nw_sorts (HF.out.1.below HF.out.1.bel.size hb1) (Nat.le_trans HF.out.1.bel.size hb1.size) HF.out.2.1 HF.out.2.2).mono ?_; rintro e w2 ⟨rfl, hg⟩))
   go_ret
   exact hg
end
end
end Go.Proofs.YtcdnjeiamihhbabGreat
