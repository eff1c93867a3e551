/- P25 -/
import Derived.Test.YtcdnjeiamihhbabGreatP24
set_option linter.unusedVariables false
set_option maxRecDepth 4000
namespace Go.Proofs.YtcdnjeiamihhbabGreat
open Go.RowKit
/-- Items whose cells lie one behind the other. -/
def ItsIn (w : World) (a : Option Addr) (n : Nat) (xs : List It) : Prop :=
 xs.length = n ∧ n ≤ maxLen ∧ (∀ x ∈ xs, x.Fits) ∧ (n = 0 ∨ ∃ b off, a = some ⟨b, off, none⟩ ∧ ∀ (i : Nat) (x : It), xs[i]? = some x → ∀ (j : Nat) (v : Value), (itL x)[j]? = some v → w.cell? ⟨b, off + i * 5 + j, none⟩ = some v)
theorem ItsIn.below {w w' : World} {a : Option Addr} {n : Nat} {xs : List It} (h : ItsIn w a n xs) (hb : Below w.heap.size w w') : ItsIn w' a n xs := by
 obtain ⟨h1, h2, h3, h4⟩ := h
 refine ⟨h1, h2, h3, ?_⟩
 rcases h4 with h4 | ⟨b, off, ha, hc⟩
 ·exact .inl h4
 ·exact .inr ⟨b, off, ha, fun i x hx j v hv => by rw [hb.cell (old_block (hc i x hx j v hv))]; exact hc i x hx j v hv⟩
theorem itsIn_none (w : World) : ItsIn w none 0 [] := ⟨rfl, Nat.zero_le _, by simp, .inl rfl⟩
def noBlock : ByteArray := ⟨#[114, 101, 99, 58, 32, 116, 104, 101, 32, 114, 101, 99, 111, 114, 100, 32, 104, 97, 115, 32, 110, 111, 32, 98, 108, 111, 99, 107]⟩
/-- The page when so many items stand. -/
def pgL (seq : Int) (xs : List It) (N i : Nat) : List Int := (hdB seq xs.length ++ itsB (xs.take i)) ++ List.replicate (N - (18 + 19 * i)) 0
theorem pg_start (seq : Int) (xs : List It) (N : Nat) (h : 18 ≤ N) : splice (List.replicate N 0) 0 (hdB seq xs.length) = pgL seq xs N 0 := by
 have := splice_end (P := []) (Q := hdB seq xs.length) (m := N) (by rw [hdB_length]; exact h)
 simp only [List.nil_append, List.length_nil] at this
 rw [this, hdB_length]
 simp [pgL, itsB]
theorem pg_front {seq : Int} {xs : List It} {i : Nat} (h : i ≤ xs.length) : (hdB seq xs.length ++ itsB (xs.take i)).length = 18 + 19 * i := by
 rw [List.length_append, hdB_length, itsB_length, List.length_take, Nat.min_eq_left h]
theorem pg_next {seq : Int} {xs : List It} {N i : Nat} {x : It} (hx : xs[i]? = some x) (h : 18 + 19 * (i + 1) ≤ N) : splice (pgL seq xs N i) (18 + 19 * i) (itB x) = pgL seq xs N (i + 1) := by
 have hi := (List.getElem?_eq_some_iff.1 hx).1
 have hf := pg_front (seq := seq) (xs := xs) (i := i) (by omega)
 have := splice_end (P := hdB seq xs.length ++ itsB (xs.take i)) (Q := itB x) (m := N - (18 + 19 * i)) (by rw [itB_length]; omega)
 rw [hf] at this
 unfold pgL
 rw [this, List.take_add_one, hx, Option.toList_some, itsB_snoc, itB_length]
 simp only [List.append_assoc]
 congr 4
theorem pg_last {seq : Int} {xs : List It} {N : Nat} (h : 19 + 19 * xs.length ≤ N) : (pgL seq xs N xs.length).set (N - 1) 231 = pageL seq xs N := by
 unfold pgL pageL headL
 rw [List.take_of_length_le (Nat.le_refl _)]
 have hf : (hdB seq xs.length ++ itsB xs).length = 18 + 19 * xs.length := by rw [List.length_append, hdB_length, itsB_length]
 have e : N - (18 + 19 * xs.length) = (N - 1 - (18 + 19 * xs.length)) + 1 := by omega
 rw [e, List.replicate_succ', List.set_append_right _ _ (by rw [hf]; omega), List.set_append_right _ _ (by rw [hf, List.length_replicate]; omega)]
 have e2 : N - 1 - (hdB seq xs.length ++ itsB xs).length - (List.replicate (N - 1 - (18 + 19 * xs.length)) (0 : Int)).length = 0 := by rw [hf, List.length_replicate]; omega
 rw [e2]
 simp
def WrittenE (w : World) (seq : Int) (xs : List It) (b : Int) (e : Ending) (w' : World) : Prop :=
 Below w.heap.size w w' ∧ ((¬ GoodR xs b ∧ e = diedE noBlock) ∨ (GoodR xs b ∧ ∃ (pb N : Nat), b = N ∧ e = .returned (.slice (some ⟨pb, 0, none⟩) N N) ∧ w'.ownsRow w.heap.size 5 1 (.slice (some ⟨pb, 0, none⟩) N N) N (u8s (encL seq xs N))))
theorem lit_hd {s n : Int} (hs : FitsU s) (hn : FitsU n) : ∀ (X : World) (g : Nat), X.heap.size = g → NIn .u64 (X.alloc (.cells #[.int .u64 1129074503, .int .u64 0, .int .u64 s, .int .u64 n] 36)) (some ⟨g, 0, none⟩) 4 (hdV s n) :=
 fun X g e => nin_litU 36 e rfl rfl (hdV_fits hs hn) (by omega)
theorem lit_it {x : It} (h : x.Fits) : ∀ (X : World) (g : Nat), X.heap.size = g → NIn .u64 (X.alloc (.cells #[.int .u64 x.t, .int .u64 x.b, .int .u64 x.k, .int .u64 x.s, .int .u64 x.e] 36)) (some ⟨g, 0, none⟩) 5 (itV x) :=
 fun X g e => nin_litU 36 e rfl rfl (itV_fits h) (by omega)
theorem Pg.alloc {w : World} {g pb N k : Nat} {L : List Int} (h : Pg w g pb N k L) (o : Obj) : Pg (w.alloc o) g pb N k L := h.below ((Below.refl _ _).alloc (Nat.le_refl _) o)
/-- Numbers are put on a page, in a world that two new rows follow. -/
theorem put_two {g pb N k : Nat} {L ws vs : List Int} {b d : Option Addr} {n c m f B : Nat} {w W : World} {o1 o2 : Obj} (hp : Pg w g pb N k L) (hW : W = (w.alloc o1).alloc o2) (hx : NIn .i64 W b n ws) (hy : NIn .u64 W d m vs)
  (hk : k + (packL ws vs).length ≤ N) (hkN : k < N) (hN : N ≤ 100000) (hn : n ≤ 1000) (hm : m ≤ 1000) (hBp : B ≤ pb) (hBg : B ≤ g) :
  Calls Tryz.prog 165 #[.pointer (some ⟨g, 0, none⟩), .slice b n c, .slice d m f] W.drew (PutE w B g pb N k L (packL ws vs)) := by
 subst hW
 refine (put_of g pb N k L b n c ws d m f vs B _ ((hp.alloc _).alloc _).drew hx.drew hy.drew hk hkN hN hn hm hBp hBg).mono ?_
 rintro e w' ⟨h1, h2, h3, h4⟩
 have hl := hp.hp.lt
 refine ⟨h1, h2, ((((Below.refl _ _).alloc (by omega) _).alloc (by simp; omega) _).drew).trans h3, fun j k1 k2 k3 => ?_⟩
 rw [h4 j (by simp; omega) k2 k3]
 show ((w.alloc o1).alloc o2).heap[j]? = _
 rw [Below.heap_alloc _ _ _ (by simp; omega), Below.heap_alloc _ _ _ k1]
theorem Pg.bin {w : World} {g pb N k : Nat} {L : List Int} (h : Pg w g pb N k L) (hf : ∀ z ∈ L, Fits8 z) (hN : N ≤ 100000) : BIn w (some ⟨pb, 0, none⟩) N L := by
 refine ⟨h.len, by unfold maxLen; omega, hf, .inr ⟨pb, 0, rfl, fun i hi => ?_⟩⟩
 rw [Nat.zero_add, h.hb.cell]
 have := h.len
 simp [u8s, List.getD, this, hi]
theorem Pg.own {w : World} {g pb N k : Nat} {L : List Int} (h : Pg w g pb N k L) (B : Nat) (hB : B ≤ pb) (hN : N ≤ 100000) : w.ownsRow B 5 1 (.slice (some ⟨pb, 0, none⟩) N N) N (u8s L) :=
 ⟨by rw [u8s_length, h.len]; omega, .inr ⟨pb, N, (u8s L).toArray, rfl, hB, h.hb, Nat.le_refl _, by unfold maxLen; omega, by simp [u8s, h.len], by rw [Nat.mul_one, List.take_of_length_le (by simp [u8s, h.len])]⟩⟩
theorem Pg.byte {w : World} {g pb N k M : Nat} {L : List Int} (h : Pg w g pb N k L) (hM : M < N) (z : Int) : (∃ y, w.cell? ⟨pb, M, none⟩ = some (.int .u8 y)) ∧ w.frozen? ⟨pb, M, none⟩ = false ∧ Pg (w.setCell ⟨pb, M, none⟩ (.int .u8 z)) g pb N k (L.set M z) := by
 have hl := h.len
 refine ⟨⟨L.getD M 0, by rw [h.hb.cell]; simp [u8s, List.getD, hl, hM]⟩, h.hb.frozen _, ⟨h.hp.set_other h.ne _, ?_, by simp [hl], h.ne⟩⟩
 have := h.hb.set M (.int .u8 z)
 have e : (u8s L).set M (.int .u8 z) = u8s (L.set M z) := by simp [u8s, List.map_set]
 rw [e] at this
 exact this
theorem Pg.seek {w : World} {g pb N k : Nat} {L : List Int} (h : Pg w g pb N k L) (m : Nat) : Pg (w.setCell ⟨g, 1, none⟩ (.int .i64 (m : Nat))) g pb N m L := ⟨h.hp.set 1 _, h.hb.set_other (fun e => h.ne e.symm) _, h.len, h.ne⟩
set_option maxHeartbeats 4000000 in
theorem written_of (seq : Int) (A : Option Addr) (n C : Nat) (xs : List It) (b : Int) (w : World) (hs : FitsU seq) (hi : ItsIn w A n xs) :
  Calls Tryz.prog 109 #[.agg #[.int .u64 seq, .slice A n C], .int .i64 b] w (WrittenE w seq xs b) := by
 obtain ⟨q, hq⟩ : ∃ q, q = w.heap.size := ⟨_, rfl⟩
 have b0 : Blk (w.alloc (.cells #[.int .u64 seq, .slice A n C] 47)) q [.int .u64 seq, .slice A n C] 47 := Blk.new' hq.symm rfl
 have bw : Below w.heap.size w (w.alloc (.cells #[.int .u64 seq, .slice A n C] 47)) := (Below.refl _ _).alloc (Nat.le_refl _) _
 have hsz : (w.alloc (.cells #[.int .u64 seq, .slice A n C] 47)).heap.size = q + 1 := by simp [hq]
 go_enter Tryz.func109, Tryz.ntmps109
 go_upto_region 1 with fail
 rw [← hq]
 generalize hW : World.alloc w _ = W at b0 bw hsz ⊢
 have H : Hid (Blk W q [.int .u64 seq, .slice A n C] 47 ∧ Below w.heap.size w W ∧ W.heap.size = q + 1 ∧ FitsU seq ∧ ItsIn w A n xs ∧ q = w.heap.size) := ⟨b0, bw, hsz, hs, hi, hq⟩
 have c1 : W.cell? ⟨q, 1, none⟩ = some (.slice A n C) := b0.cell 1
 have hm := hi.2.1
 unfold maxLen at hm
 clear hW b0 bw hsz hs hi hq
 by_cases hn0 : n = 0
 ·have HN : Hid (¬ GoodR xs b) := fun h => by have := h.1; have := H.out.2.2.2.2.1.1; omega
  subst hn0
  have z1 : ((0 : Int) == 0) = true := rfl
  have z2 : (((0 : Nat) : Int) == 0) = true := rfl
  go_quiet (fail)
  go_wp2
  exact ⟨rfl, Go.below_drewN H.out.2.1 _, .inl ⟨HN.out, rfl⟩⟩
 ·have hn0' : ((n : Int) == 0) = false := by simp; omega
  have hn0d : (n == 0) = false := by simp [hn0]
  have cR := fun V => room_of b V
  obtain ⟨R, hR⟩ : ∃ R, R = roomI b := ⟨_, rfl⟩
  simp only [← hR] at cR
  by_cases hnr : R < (n : Int)
  ·have HN : Hid (¬ GoodR xs b) := fun h => by have := h.2.1; have := H.out.2.2.2.2.1.1; omega
   have hnd : decide (R < (n : Int)) = true := by simp [hnr]
   clear hR hnr
   go_region_held3 (fun V => V.cell? ⟨q, 1, none⟩ = some (.slice A n C)) (first | exact c1) ((go_at_call 32; refine (cR _).mono ?_; rintro e w2 ⟨rfl, hw2⟩; replace hw2 := hw2.symm; subst hw2))
   go_wp2
   exact ⟨rfl, H.out.2.1.drew, .inl ⟨HN.out, rfl⟩⟩
  ·have hnd : decide (R < (n : Int)) = false := by simp; omega
   have hrb := room_bounds (b := b) (by omega)
   have hpb := pow_bounds hrb.1
   obtain ⟨N, rfl⟩ : ∃ N : Nat, b = N := ⟨b.toNat, by omega⟩
   have HG : Hid (19 + 19 * n ≤ N ∧ 64 ≤ N ∧ N ≤ 4096 ∧ ((n : Int) ≤ roomI N) ∧ 0 < n ∧ n ≤ 214) := by
    have := room_le (N : Int)
    exact ⟨by omega, by omega, by omega, by omega, by omega, by omega⟩
   clear hR hnr hrb hpb
   go_region_held3 (fun V => V.cell? ⟨q, 1, none⟩ = some (.slice A n C)) (first | exact c1) ((go_at_call 32; refine (cR _).mono ?_; rintro e w2 ⟨rfl, hw2⟩; replace hw2 := hw2.symm; subst hw2))
   clear cR hnd hn0' hn0d hn0
   have hmk := run_make_row' (P := Tryz.prog) 51 5 (.int .u8 0) 1 Tryz.underlying51 Tryz.zero_u8 rfl .i64 .i64 N (by have := HG.out; omega) (by have := HG.out; omega)
   have HW : Hid (Below w.heap.size w W.drew ∧ Blk W.drew q [.int .u64 seq, .slice A n C] 47 ∧ ItsIn W.drew A n xs ∧ W.drew.heap.size = q + 1) := ⟨H.out.2.1.drew, H.out.1.drew, H.out.2.2.2.2.1.below H.out.2.1.drew, H.out.2.2.1⟩
   generalize hV : World.drew W = V at HW ⊢
   have p1 := cmade_bytes N V
   have s1 := HW.out.2.2.2
   rw [s1] at p1
   have hpg : Pg ((V.alloc (.cells (madeCells #[.int .u8 0] N) 5)).alloc (.cells #[.slice (some ⟨q + 1, 0, none⟩) N N, .int .i64 0] 244)) (q + 2) (q + 1) N 0 (List.replicate N 0) :=
    ⟨Blk.new' (by simp [s1]) rfl, p1.alloc _, by simp, by omega⟩
   have hbl : Below (q + 1) V ((V.alloc (.cells (madeCells #[.int .u8 0] N) 5)).alloc (.cells #[.slice (some ⟨q + 1, 0, none⟩) N N, .int .i64 0] 244)) := ((Below.refl _ _).alloc (by omega) _).alloc (by simp; omega) _
   clear p1 c1 hV
   go_upto_region 4 with fail
   have e2 : q + 1 + 1 = q + 2 := rfl
   rw [e2]
   clear e2
   have it1 : ItsIn ((V.alloc (.cells (madeCells #[.int .u8 0] N) 5)).alloc (.cells #[.slice (some ⟨q + 1, 0, none⟩) N N, .int .i64 0] 244)) A n xs := HW.out.2.2.1.below (by rw [s1]; exact hbl)
   have r1 : Blk ((V.alloc (.cells (madeCells #[.int .u8 0] N) 5)).alloc (.cells #[.slice (some ⟨q + 1, 0, none⟩) N N, .int .i64 0] 244)) q [.int .u64 seq, .slice A n C] 47 := HW.out.2.1.below hbl (by omega)
   have bl1 := HW.out.1.trans (hbl.mono (by rw [← H.out.2.2.2.2.2]; omega))
   generalize hV1 : World.alloc (World.alloc V _) _ = V1 at hpg hbl it1 r1 bl1 ⊢
   have H1 : Hid (Pg V1 (q + 2) (q + 1) N 0 (List.replicate N 0) ∧ Blk V1 q [.int .u64 seq, .slice A n C] 47 ∧ Below w.heap.size w V1 ∧ ItsIn V1 A n xs) := ⟨hpg, r1, bl1, it1⟩
   have c0 : V1.cell? ⟨q, 0, none⟩ = some (.int .u64 seq) := r1.cell 0
   have c1 : V1.cell? ⟨q, 1, none⟩ = some (.slice A n C) := r1.cell 1
   have g0 : ∀ o, (V1.alloc o).cell? ⟨q, 0, none⟩ = some (.int .u64 seq) := fun o => (r1.alloc o).cell 0
   have g1 : ∀ o, (V1.alloc o).cell? ⟨q, 1, none⟩ = some (.slice A n C) := fun o => (r1.alloc o).cell 1
   have i0 : ∀ o p, ((V1.alloc o).alloc p).cell? ⟨q, 0, none⟩ = some (.int .u64 seq) := fun o p => ((r1.alloc o).alloc p).cell 0
   have i1 : ∀ o p, ((V1.alloc o).alloc p).cell? ⟨q, 1, none⟩ = some (.slice A n C) := fun o p => ((r1.alloc o).alloc p).cell 1
   have hnw : IntKind.u64.wrap (n : Int) = n := by rw [IntKind.wrap_u64]; have := HG.out; omega
   have HL : Hid (∀ (X : World) (g : Nat), X.heap.size = g → NIn .u64 (X.alloc (.cells #[.int .u64 1129074503, .int .u64 0, .int .u64 seq, .int .u64 (n : Int)] 36)) (some ⟨g, 0, none⟩) 4 (hdV seq n)) := lit_hd H.out.2.2.2.1 (by have := HG.out; unfold FitsU; omega)
   have HP : Hid ((packL hdW (hdV seq n)).length = 18) := hdB_length seq n
   clear hpg hbl it1 r1 bl1 hV1 s1 hmk HW hm
   go_region_held3 (fun X => X.cell? ⟨q, 0, none⟩ = some (.int .u64 seq) ∧ X.cell? ⟨q, 1, none⟩ = some (.slice A n C)) (first | exact ⟨c0, c1⟩ | exact ⟨g0 _, g1 _⟩ | exact ⟨i0 _ _, i1 _ _⟩ | exact ⟨p0, p1⟩)
    (first
    | (go_simp; go_at_call 166; refine (headW_of _).mono ?_; rintro e W1 ⟨rfl, rfl⟩)
    | (go_simp; go_at_call 165; refine (put_two (B := q + 1) H1.out.1 rfl (by first | exact (nin_hd rfl).alloc _ | exact nin_hd (by simp)) (by first | exact HL.out _ _ (by simp) | exact (HL.out _ _ rfl).alloc _) (by rw [HP.out]; have := HG.out; omega) (by have := HG.out; omega) (by have := HG.out; omega) (by omega) (by omega) (by omega) (by omega)).mono ?_; rintro e w2 ⟨rfl, pg2, b2, _⟩; have r2 := H1.out.2.1.below b2 (by omega); have p0 : w2.cell? ⟨q, 0, none⟩ = some (.int .u64 seq) := r2.cell 0; have p1 : w2.cell? ⟨q, 1, none⟩ = some (.slice A n C) := r2.cell 1))
   all_goals (
    have H2 : Hid (Pg w2 (q + 2) (q + 1) N 18 (pgL seq xs N 0) ∧ Below (q + 1) V1 w2) := by
     refine ⟨?_, b2⟩
     have e := pg_start seq xs N (by have := HG.out; omega)
     rw [HP.out] at pg2
     have en : hdB seq (xs.length : Nat) = packL hdW (hdV seq n) := by rw [H.out.2.2.2.2.1.1]; rfl
     rw [en] at e
     rw [e] at pg2
     exact pg2
    clear pg2 b2 r2 c0 c1 g0 g1 i0 i1 p0 HL HP hnw
    go_wp2
    go_loopw [36] (fun x wr => ∃ i : Nat, x = .int .i64 i ∧ i ≤ n ∧ Pg wr (q + 2) (q + 1) N (18 + 19 * i) (pgL seq xs N i) ∧ Below (q + 1) V1 wr ∧ ∀ y ∈ xs.take i, RightI y) (fun x _ => n - (intOf x).toNat)
    case atStart => exact ⟨0, rfl, Nat.zero_le _, H2.out.1, H2.out.2, by simp⟩
    case round =>
     obtain ⟨i, rfl, hi, pg, bl, hri⟩ := hrel
     have hV1 : V1.heap.size ≤ wr.heap.size := bl.size
     have hpl := H1.out.1.hp.lt
     have blw : Below w.heap.size w wr := H1.out.2.2.1.trans (bl.mono (by rw [← H.out.2.2.2.2.2]; omega))
     rcases Nat.lt_or_ge i n with hlt | hge
     ·obtain ⟨x, hx⟩ : ∃ x, xs[i]? = some x := ⟨xs[i]'(by have := H.out.2.2.2.2.1.1; omega), by simp⟩
      have hxf := H.out.2.2.2.2.1.2.2.1 x (List.mem_of_getElem? hx)
      obtain ⟨b', off, hA, hc⟩ := (H.out.2.2.2.2.1.below blw).2.2.2.resolve_left (by omega)
      subst hA
      have d0 : wr.cell? ⟨b', off + i * 5, none⟩ = some (.int .u32 x.t) := hc i x hx 0 _ rfl
      have d1 : wr.cell? ⟨b', off + i * 5 + 1, none⟩ = some (.int .u64 x.b) := hc i x hx 1 _ rfl
      have d2 : wr.cell? ⟨b', off + i * 5 + 2, none⟩ = some (.int .u8 x.k) := hc i x hx 2 _ rfl
      have d3 : wr.cell? ⟨b', off + i * 5 + 3, none⟩ = some (.int .u32 x.s) := hc i x hx 3 _ rfl
      have d4 : wr.cell? ⟨b', off + i * 5 + 4, none⟩ = some (.int .u16 x.e) := hc i x hx 4 _ rfl
      obtain ⟨qi, hqi⟩ : ∃ qi, qi = wr.heap.size := ⟨_, rfl⟩
      have kb : Blk (wr.alloc (.cells #[.int .u32 x.t, .int .u64 x.b, .int .u8 x.k, .int .u32 x.s, .int .u16 x.e] 50)) qi (itL x) 50 := Blk.new' hqi.symm rfl
      have pg7 := pg.alloc (.cells #[.int .u32 x.t, .int .u64 x.b, .int .u8 x.k, .int .u32 x.s, .int .u16 x.e] 50)
      have bl7 := bl.alloc (by omega : q + 1 ≤ wr.heap.size) (.cells #[.int .u32 x.t, .int .u64 x.b, .int .u8 x.k, .int .u32 x.s, .int .u16 x.e] 50)
      have blw7 := blw.alloc (by have := H.out.2.2.2.2.2; omega : w.heap.size ≤ wr.heap.size) (.cells #[.int .u32 x.t, .int .u64 x.b, .int .u8 x.k, .int .u32 x.s, .int .u16 x.e] 50)
      have hi' : (i : Int) < n := by omega
      have hwi : IntKind.i64.wrap ((i : Int) + 1) = (i : Int) + 1 := by have := HG.out; rw [IntKind.wrap_i64]; omega
      have HX : Hid (xs[i]? = some x ∧ x.Fits ∧ (∀ y ∈ xs.take i, RightI y) ∧ q + 3 ≤ wr.heap.size) := ⟨hx, hxf, hri, by omega⟩
      clear hx hxf hri hc pg bl blw hV1 hpl
      go_upto_region 8 with fail
      rw [← hqi]
      generalize World.alloc wr _ = W7 at kb pg7 bl7 blw7 ⊢
      have H7 : Hid (Blk W7 qi (itL x) 50 ∧ Pg W7 (q + 2) (q + 1) N (18 + 19 * i) (pgL seq xs N i) ∧ Below (q + 1) V1 W7 ∧ Below w.heap.size w W7 ∧ q + 3 ≤ qi) := ⟨kb, pg7, bl7, blw7, by have := HX.out.2.2.2; omega⟩
      have k0 : W7.cell? ⟨qi, 0, none⟩ = some (.int .u32 x.t) := kb.cell 0
      have k1 : W7.cell? ⟨qi, 1, none⟩ = some (.int .u64 x.b) := kb.cell 1
      have k2 : W7.cell? ⟨qi, 2, none⟩ = some (.int .u8 x.k) := kb.cell 2
      have k3 : W7.cell? ⟨qi, 3, none⟩ = some (.int .u32 x.s) := kb.cell 3
      have k4 : W7.cell? ⟨qi, 4, none⟩ = some (.int .u16 x.e) := kb.cell 4
      clear kb pg7 bl7 blw7 d0 d1 d2 d3 d4 hqi
      by_cases hr : RightI x
      ·have HR : Hid (RightI x) := hr
       clear hr
       go_upto_region 10 with (go_at_call 167; refine (cright_of x _).mono ?_; rintro e W8 ⟨rfl, b8⟩; rw [decide_eq_true HR.out])
       have kb8 := H7.out.1.below b8 H7.out.1.lt
       have H8 : Hid (Blk W8 qi (itL x) 50 ∧ Pg W8 (q + 2) (q + 1) N (18 + 19 * i) (pgL seq xs N i) ∧ Below (q + 1) V1 W8) := ⟨kb8, H7.out.2.1.below b8, H7.out.2.2.1.trans (b8.mono (by have := H7.out.1.lt; have := H7.out.2.2.2.2; omega))⟩
       clear k0 k1 k2 k3 k4 b8
       have c0 : W8.cell? ⟨qi, 0, none⟩ = some (.int .u32 x.t) := kb8.cell 0
       have c1 : W8.cell? ⟨qi, 1, none⟩ = some (.int .u64 x.b) := kb8.cell 1
       have c2 : W8.cell? ⟨qi, 2, none⟩ = some (.int .u8 x.k) := kb8.cell 2
       have c3 : W8.cell? ⟨qi, 3, none⟩ = some (.int .u32 x.s) := kb8.cell 3
       have c4 : W8.cell? ⟨qi, 4, none⟩ = some (.int .u16 x.e) := kb8.cell 4
       have g0 : ∀ o, (W8.alloc o).cell? ⟨qi, 0, none⟩ = some (.int .u32 x.t) := fun o => (kb8.alloc o).cell 0
       have g1 : ∀ o, (W8.alloc o).cell? ⟨qi, 1, none⟩ = some (.int .u64 x.b) := fun o => (kb8.alloc o).cell 1
       have g2 : ∀ o, (W8.alloc o).cell? ⟨qi, 2, none⟩ = some (.int .u8 x.k) := fun o => (kb8.alloc o).cell 2
       have g3 : ∀ o, (W8.alloc o).cell? ⟨qi, 3, none⟩ = some (.int .u32 x.s) := fun o => (kb8.alloc o).cell 3
       have g4 : ∀ o, (W8.alloc o).cell? ⟨qi, 4, none⟩ = some (.int .u16 x.e) := fun o => (kb8.alloc o).cell 4
       have i0 : ∀ o p, ((W8.alloc o).alloc p).cell? ⟨qi, 0, none⟩ = some (.int .u32 x.t) := fun o p => ((kb8.alloc o).alloc p).cell 0
       have i1 : ∀ o p, ((W8.alloc o).alloc p).cell? ⟨qi, 1, none⟩ = some (.int .u64 x.b) := fun o p => ((kb8.alloc o).alloc p).cell 1
       have i2 : ∀ o p, ((W8.alloc o).alloc p).cell? ⟨qi, 2, none⟩ = some (.int .u8 x.k) := fun o p => ((kb8.alloc o).alloc p).cell 2
       have i3 : ∀ o p, ((W8.alloc o).alloc p).cell? ⟨qi, 3, none⟩ = some (.int .u32 x.s) := fun o p => ((kb8.alloc o).alloc p).cell 3
       have i4 : ∀ o p, ((W8.alloc o).alloc p).cell? ⟨qi, 4, none⟩ = some (.int .u16 x.e) := fun o p => ((kb8.alloc o).alloc p).cell 4
       obtain ⟨u0, u2, u3, u4⟩ : IntKind.u64.wrap x.t = x.t ∧ IntKind.u64.wrap x.k = x.k ∧ IntKind.u64.wrap x.s = x.s ∧ IntKind.u64.wrap x.e = x.e := by
        obtain ⟨f0, _, f2, f3, f4⟩ := HX.out.2.1
        unfold Fits32 at f0 f3
        unfold Fits8 at f2
        unfold Fits16 at f4
        simp only [IntKind.wrap_u64]
        omega
       have HL : Hid (∀ (X : World) (g : Nat), X.heap.size = g → NIn .u64 (X.alloc (.cells #[.int .u64 x.t, .int .u64 x.b, .int .u64 x.k, .int .u64 x.s, .int .u64 x.e] 36)) (some ⟨g, 0, none⟩) 5 (itV x)) := lit_it HX.out.2.1
       have HP : Hid ((packL itW (itV x)).length = 19) := itB_length x
       clear kb8
       go_region_held3 (fun X => X.cell? ⟨qi, 0, none⟩ = some (.int .u32 x.t) ∧ X.cell? ⟨qi, 1, none⟩ = some (.int .u64 x.b) ∧ X.cell? ⟨qi, 2, none⟩ = some (.int .u8 x.k) ∧ X.cell? ⟨qi, 3, none⟩ = some (.int .u32 x.s) ∧ X.cell? ⟨qi, 4, none⟩ = some (.int .u16 x.e)) (first | exact ⟨c0, c1, c2, c3, c4⟩ | exact ⟨g0 _, g1 _, g2 _, g3 _, g4 _⟩ | exact ⟨m0, m1, m2, m3, m4⟩ | exact ⟨i0 _ _, i1 _ _, i2 _ _, i3 _ _, i4 _ _⟩)
        (first
        | (go_simp; go_at_call 168; refine (itemW_of _).mono ?_; rintro e W1 ⟨rfl, rfl⟩)
        | (go_simp; go_at_call 165; refine (put_two (B := q + 1) H8.out.2.1 rfl (by first | exact (nin_it rfl).alloc _ | exact nin_it (by simp)) (by first | exact HL.out _ _ (by simp) | exact (HL.out _ _ rfl).alloc _) (by rw [HP.out]; have := HG.out; omega) (by have := HG.out; omega) (by have := HG.out; omega) (by omega) (by omega) (by omega) (by omega)).mono ?_; rintro e w9 ⟨rfl, pg9, b9, f9⟩; have kb9 := blk_same H8.out.1 (f9 qi H8.out.1.lt (by have := H7.out.2.2.2.2; omega) (by have := H7.out.2.2.2.2; omega)); have m0 : w9.cell? ⟨qi, 0, none⟩ = some (.int .u32 x.t) := kb9.cell 0; have m1 : w9.cell? ⟨qi, 1, none⟩ = some (.int .u64 x.b) := kb9.cell 1; have m2 : w9.cell? ⟨qi, 2, none⟩ = some (.int .u8 x.k) := kb9.cell 2; have m3 : w9.cell? ⟨qi, 3, none⟩ = some (.int .u32 x.s) := kb9.cell 3; have m4 : w9.cell? ⟨qi, 4, none⟩ = some (.int .u16 x.e) := kb9.cell 4))
       all_goals (
        have H9 : Hid (Pg w9 (q + 2) (q + 1) N (18 + 19 * (i + 1)) (pgL seq xs N (i + 1)) ∧ Below (q + 1) V1 w9 ∧ ∀ y ∈ xs.take (i + 1), RightI y) := by
         refine ⟨?_, H8.out.2.2.trans b9, ?_⟩
         ·have e := pg_next (seq := seq) (N := N) HX.out.1 (by have := HG.out; omega)
          rw [HP.out] at pg9
          unfold itB at e
          rw [e] at pg9
          exact pg9
         ·intro y hy
          rw [List.take_add_one, HX.out.1] at hy
          rcases List.mem_append.1 hy with h | h
          ·exact HX.out.2.2.1 y h
          ·simp at h; rw [h]; exact HR.out
        clear pg9 b9 f9 kb9 m0 m1 m2 m3 m4 c0 c1 c2 c3 c4 g0 g1 g2 g3 g4 i0 i1 i2 i3 i4 u0 u2 u3 u4 HL HP
        go_wp2
        go_roundw
        case rel => exact ⟨i + 1, by simp, by omega, H9.out⟩
        case measure => simp [intOf]; omega)
      ·have HR : Hid (¬ RightI x) := hr
       clear hr
       go_wp2_with (go_at_call 167; refine (cright_of x _).mono ?_; rintro e W8 ⟨rfl, b8⟩; rw [decide_eq_false HR.out])
       exact ⟨rfl, H7.out.2.2.2.1.trans (b8.mono H7.out.2.2.2.1.size), .inl ⟨fun h => HR.out (h.2.2 x (List.mem_of_getElem? HX.out.1)), rfl⟩⟩
     ·obtain rfl : i = n := by omega
      have hxl := H.out.2.2.2.2.1.1
      obtain ⟨M, hM⟩ : ∃ M, N = M + 1 := ⟨N - 1, by have := HG.out; omega⟩
      have hMN : M < N := by omega
      obtain ⟨⟨y, cy⟩, fy, pg1⟩ := pg.byte hMN 231
      have hpage : (pgL seq xs N i).set M 231 = pageL seq xs N := by
       have := pg_last (seq := seq) (xs := xs) (N := N) (by have := HG.out; omega)
       rw [hxl] at this
       rw [← this]
       congr 1
       omega
      rw [hpage] at pg1
      have c0 : wr.cell? ⟨q + 2, 0, none⟩ = some (.slice (some ⟨q + 1, 0, none⟩) N N) := pg.hp.cell 0
      have hwM : IntKind.i64.wrap ((N : Int) - 1) = (M : Int) := by have := HG.out; rw [IntKind.wrap_i64]; omega
      have hM' : (M : Int) < N := by omega
      have HZ : Hid (GoodR xs (N : Int) ∧ Below (q + 1) V1 wr ∧ Below w.heap.size w wr) := by
       refine ⟨⟨by have := HG.out; omega, by have := HG.out; omega, fun y hy => hri y ?_⟩, bl, blw⟩
       rw [List.take_of_length_le (by omega)]; exact hy
      clear hpage hri hxl hM hMN bl blw hV1 hpl pg
      go_upto_region 13 with fail
      have b1 : Below (q + 1) wr (wr.setCell ⟨q + 1, M, none⟩ (.int .u8 231)) := (Below.refl (q + 1) wr).setCell (p := ⟨q + 1, M, none⟩) (Nat.le_refl _) _
      generalize World.setCell wr _ _ = X1 at pg1 b1 ⊢
      have c1 : X1.cell? ⟨q + 2, 1, none⟩ = some (.int .i64 ((18 + 19 * i : Nat) : Int)) := pg1.hp.cell 1
      have f1 := pg1.hp.frozen 1
      have pg2 := pg1.seek 4
      have b2 : Below (q + 1) X1 (X1.setCell ⟨q + 2, 1, none⟩ (.int .i64 ((4 : Nat) : Int))) := (Below.refl (q + 1) X1).setCell (p := ⟨q + 2, 1, none⟩) (by show q + 1 ≤ q + 2; omega) _
      clear c0 cy fy hwM hM'
      go_upto_region 14 with fail
      have b3 := b1.trans b2
      have e4 : ((4 : Nat) : Int) = 4 := rfl
      rw [e4] at pg2 b3
      clear b1 b2 e4 c1 f1 pg1
      generalize World.setCell X1 _ _ = X2 at pg2 b3 ⊢
      have c0 : ∀ o, (X2.alloc o).cell? ⟨q + 2, 0, none⟩ = some (.slice (some ⟨q + 1, 0, none⟩) N N) := fun o => (pg2.hp.alloc o).cell 0
      have hcr := crI_fits fits0 (page_fits seq xs N)
      obtain ⟨K, hK⟩ : ∃ K, K = crI 0 (pageL seq xs N) := ⟨_, rfl⟩
      rw [← hK] at hcr
      have hKw : IntKind.u64.wrap K = K := by have := hcr.1; have := hcr.2; rw [IntKind.wrap_u64]; omega
      have H2' : Hid (Pg X2 (q + 2) (q + 1) N 4 (pageL seq xs N) ∧ Below (q + 1) wr X2 ∧ K = crI 0 (pageL seq xs N) ∧ Fits32 K) := ⟨pg2, b3, hK, hcr⟩
      clear pg2 b3 hK hcr
      go_wp2_with (go_at_call 41; refine (crcSum_of (X2.heap.size + 1) (some ⟨q + 1, 0, none⟩) N N 1 (pageL seq xs N) _ (by rw [show X2.heap.size + 1 = (X2.alloc (.cells #[.int .i64 4] 3)).heap.size by simp, World.cell?_alloc_mark]; rfl) (((H2'.out.1.bin (page_fits _ _ _) (by have := HG.out; omega)).alloc _).alloc _)).mono ?_; rintro e W9 ⟨rfl, hw9⟩; replace hw9 := hw9.symm; subst hw9; rw [← H2'.out.2.2.1])
      refine (put_of (q + 2) (q + 1) N 4 (pageL seq xs N) (some ⟨X2.heap.size, 0, none⟩) 1 1 [4] (some ⟨X2.heap.size + 1 + 1, 0, none⟩) 1 1 [K] (q + 1) _ (((H2'.out.1.alloc _).alloc _).alloc _) (((nin_lit 3 (L := [4]) rfl rfl rfl rfl (by decide)).alloc _).alloc _) (nin_litU 36 (by simp) rfl rfl (by intro z hz; simp only [List.mem_cons, List.not_mem_nil, or_false] at hz; subst hz; have := H2'.out.2.2.2; unfold Fits32 at this; unfold FitsU; omega) (by omega)) (by rw [pack4, bigI_length]; have := HG.out; omega) (by have := HG.out; omega) (by have := HG.out; omega) (by omega) (by omega) (by omega) (by omega)).mono ?_
      rintro e w9 ⟨rfl, pg9, b9, _⟩
      have H9 : Hid (Pg w9 (q + 2) (q + 1) N 8 (encL seq xs N) ∧ Below w.heap.size w w9) := by
       rw [pack4, bigI_length, H2'.out.2.2.1, join_splice] at pg9
       refine ⟨pg9, ?_⟩
       have h1 := H2'.out.1.hp.lt
       have hb := HZ.out.2.2.trans (H2'.out.2.1.mono (by rw [← H.out.2.2.2.2.2]; omega))
       have hsz := hb.size
       exact (((hb.alloc (by omega) _).alloc (by simp; omega) _).alloc (by simp; omega) _).trans (b9.mono (by rw [← H.out.2.2.2.2.2]; omega))
      have c9 : w9.cell? ⟨q + 2, 0, none⟩ = some (.slice (some ⟨q + 1, 0, none⟩) N N) := pg9.hp.cell 0
      clear pg9 b9 c0 hKw
      go_wp2
      go_ret
      exact ⟨H9.out.2, .inr ⟨HZ.out.1, q + 1, N, rfl, rfl, H9.out.1.own _ (by rw [← H.out.2.2.2.2.2]; omega) (by have := HG.out; omega)⟩⟩)
end Go.Proofs.YtcdnjeiamihhbabGreat
