/- P15 -/
import Derived.Laws.MakeOwn
import Derived.Test.YtcdnjeiamihhbabGreatP13
import Derived.Test.YtcdnjeiamihhbabGreatP14
set_option linter.unusedVariables false
set_option maxRecDepth 4000
namespace Go.Proofs.YtcdnjeiamihhbabGreat
open Go.RowKit Go.Shelf
section
attribute [local go_sem] Oper.semAt_some
structure WrSt (w : World) (q L B1 B2 : Nat) (b seq : Int) (A : Option Addr) (n C m r : Nat) (ls : List (List Int)) (k : Nat) (W : World) : Prop where
 below : Below q w W
 b0 : Blk W q [.int .i64 b] 3
 b1 : Blk W (q + 1) [.int .u64 seq, .slice A n C] 78
 b2 : Blk W (q + 2) [.int .i64 m] 3
 p1 : Blk W B1 [.slice A n C] 76
 p2 : Blk W B2 [.int .i64 r] 3
 o : ∃ v, Blk W L [v] 100 ∧ RowAt (fun j => q ≤ j) W v (ls.take k)
 ne : q ≤ L ∧ q = w.heap.size
section
variable {w : World} {q L B1 B2 : Nat} {b seq : Int} {A : Option Addr} {n C m r : Nat} {ls : List (List Int)} {k : Nat} {W W' : World}
theorem WrSt.under (h : WrSt w q L B1 B2 b seq A n C m r ls k W) (hb : Below W.heap.size W W') : WrSt w q L B1 B2 b seq A n C m r ls k W' := by
 obtain ⟨v, o1, o2⟩ := h.o
 have ho := below_out Non hb
 exact ⟨h.below.trans (hb.mono (by have := o1.lt; have := h.ne; omega)), ho.blk h.b0 id, ho.blk h.b1 id, ho.blk h.b2 id, ho.blk h.p1 id, ho.blk h.p2 id, ⟨v, ho.blk o1 id, o2.out ho (fun _ _ => id) (fun _ _ _ _ => id)⟩, h.ne⟩
theorem WrSt.calm {l : Nat} (h : WrSt w q L B1 B2 b seq A n C m r ls k W) (hc : Calm l W W') (hl : q ≤ l) : WrSt w q L B1 B2 b seq A n C m r ls k W' := by
 obtain ⟨v, o1, o2⟩ := h.o
 exact ⟨h.below.trans (hc.2.1.below (by have := o1.lt; have := h.ne; omega) (fun j e => by omega)), hc.blk h.b0, hc.blk h.b1, hc.blk h.b2, hc.blk h.p1, hc.blk h.p2, ⟨v, hc.blk o1, hc.row o2⟩, h.ne⟩
theorem WrSt.app {R : Loop} {l : Nat} (h : WrSt w q L B1 B2 b seq A n C m r ls k W) (hbk : Book R l W) {D : List Int} (hD : ls[k]? = some D) {v v' : Value} {o : Obj} {w' : World} (hr : RowAt (fun j => q ≤ j) W v (ls.take k)) (hv : Blk W L [v] 100)
  (hg : (W.alloc o).grownBy w' v.ownBlock) (h2 : RowAt (fun j => q ≤ j) w' v' (ls.take k ++ [D])) : WrSt w q L B1 B2 b seq A n C m r ls (k + 1) (w'.setCell ⟨L, 0, none⟩ v') ∧ Book R l (w'.setCell ⟨L, 0, none⟩ v') := by
 obtain ⟨vs, r1, r2, _⟩ := id hr
 have g1 : Blk w' L [v] 100 := (hv.alloc o).grown (by decide) (r1.alloc o) hg
 have k0 : Blk w' q _ _ := (h.b0.alloc o).grown (by decide) (r1.alloc o) hg
 have k1 : Blk w' (q + 1) _ _ := (h.b1.alloc o).grown (by decide) (r1.alloc o) hg
 have k2 : Blk w' (q + 2) _ _ := (h.b2.alloc o).grown (by decide) (r1.alloc o) hg
 have k3 : Blk w' B1 _ _ := (h.p1.alloc o).grown (by decide) (r1.alloc o) hg
 have k4 : Blk w' B2 _ _ := (h.p2.alloc o).grown (by decide) (r1.alloc o) hg
 have lt := hv.lt
 have ne := h.ne
 refine ⟨⟨?_, k0.set_other (blk_ne k0 g1 (by decide)) _, k1.set_other (blk_ne k1 g1 (by decide)) _, k2.set_other (blk_ne k2 g1 (by decide)) _, k3.set_other (blk_ne k3 g1 (by decide)) _, k4.set_other (blk_ne k4 g1 (by decide)) _, ⟨v', g1.set 0 v', ?_⟩, h.ne⟩, book_cell (book_app hbk hr hg) g1 0 v'⟩
 ·exact (((h.below.alloc (by omega) o).grown hg (by simp; omega) (fun j hj => r2 j hj)).setCell (p := ⟨L, 0, none⟩) ne.1 v')
 ·rw [take_snoc hD]
  exact out_row g1 (by decide) (by decide) 0 v' h2
end
theorem pow_mod {b : Int} (h : b ∈ PowR) : b % 16 = 0 := by
 simp only [PowR, List.mem_cons, List.not_mem_nil, or_false] at h
 omega
def WritGot (w : World) (s : Sh) (seq : Int) (ps : List Pl) (e : Ending) (w' : World) : Prop :=
 ∃ v, e = .returned v ∧ RowAt (fun j => w.heap.size ≤ j) w' v (ckL s seq ps) ∧ Below w.heap.size w w'
theorem KIn.calm {l : Nat} {W W' : World} {a : Option Addr} {n : Nat} {ps : List Pl} (hc : Calm l W W') (h : KIn W a n ps) : KIn W' a n ps := h.cells (fun b o v _ hv => hc.cell hv)
set_option maxHeartbeats 4000000 in
theorem kwritten_of (s : Sh) (seq : Int) (A : Option Addr) (n C : Nat) (ps : List Pl) (w : World) (hk : KIn w A n ps) (hnC : n ≤ C) (hseq : FitsU seq) (hs : RightS s) (hf : ∀ p ∈ ps, Fit2 p) (hm : mK s ps ≤ 4096) :
  Calls Tryz.prog 103 #[.int .i64 s.b, .agg #[.int .u64 seq, .slice A n C]] w (WritGot w s seq ps) := by
 obtain ⟨q, hq⟩ : ∃ q, q = w.heap.size := ⟨_, rfl⟩
 obtain ⟨i0, hi0, hz0, hz1, hz2⟩ := info_parts Tryz.zero_bytes
 obtain ⟨r, hr⟩ : ∃ r : Nat, roomK s.b = r := ⟨roomN s, by have := roomK_pow hs.2.2.2.2.1; unfold roomN; omega⟩
 obtain ⟨m, hmm⟩ : ∃ m : Nat, m = mK s ps := ⟨_, rfl⟩
 have hrN : roomN s = r := by unfold roomN; omega
 have hrb := roomN_pos hs
 rw [hrN] at hrb
 have hn : n ≤ 4096 * 254 := by
  have h1 := manyN_all (r := r) (n := ps.length) (by omega)
  have h2 : manyN r ps.length = mK s ps := by unfold mK; rw [hrN]
  have h3 : manyN r ps.length * r ≤ 4096 * 254 := Nat.mul_le_mul (by omega) (by omega)
  have := hk.1
  omega
 have w1 : IntKind.i64.wrap ((n : Int) + r) = (n : Int) + r := by rw [IntKind.wrap_i64]; omega
 have w2 : IntKind.i64.wrap ((n : Int) + r - 1) = ((n + r - 1 : Nat) : Int) := by rw [IntKind.wrap_i64]; omega
 obtain ⟨X, hX⟩ : ∃ X : Nat, X = (n + r - 1) / r := ⟨_, rfl⟩
 have hXb : X ≤ n + r - 1 := by rw [hX]; exact Nat.div_le_self _ _
 have w3 : IntKind.i64.wrap (((n + r - 1 : Nat) : Int) / (r : Int)) = (X : Int) := by
  rw [← Int.natCast_ediv, ← hX, IntKind.wrap_i64]
  omega
 have w4 : (if (1 : Int) < (X : Int) then (X : Int) else 1) = (m : Int) := by
  rw [hmm]; unfold mK manyN; rw [hrN, hk.1, ← hX]; split <;> omega
 clear hX hXb
 have hr0 : ¬ (r : Int) = 0 := by omega
 have H : Hid (KIn w A n ps ∧ n ≤ C ∧ FitsU seq ∧ RightS s ∧ (∀ p ∈ ps, Fit2 p) ∧ q = w.heap.size ∧ roomK s.b = r ∧ m = mK s ps ∧ roomN s = r ∧ Tryz.prog.info? 51 = some i0 ∧ i0.zero = some (.slice none 0 0) ∧ i0.size = 1 ∧ i0.bytes = 24 ∧ n ≤ 4096 * 254 ∧ m ≤ 4096) := ⟨hk, hnC, hseq, hs, hf, hq, hr, hmm, hrN, hi0, hz0, hz1, hz2, hn, by omega⟩
 have HR : Hid (2 ≤ r ∧ 27 + 16 * r ≤ s.b.toNat ∧ r ≤ 254) := hrb
 clear hk hnC hseq hs hf hrb hi0 hz0 hz1 hz2 hm hmm hrN hr hn
 refine (callsIn_wide (n := 5)).1 (callsIn_of_wp_marks Tryz.func103 rfl trivial (wpIn_wide.2 ?_))
 simp only [Tryz.ntmps103, List.size_toArray, List.length_cons, List.length_nil, Nat.reduceAdd, Nat.reduceSub, Array.replicate_succ, Array.replicate_zero, List.push_toArray, List.append_toArray, List.nil_append, List.cons_append]
 go_upto_region 3 with (go_at_call 102; refine (kroom_of _ _).mono ?_; rintro e w' ⟨rfl, hw'⟩; replace hw' := hw'.symm; subst hw'; rw [H.out.2.2.2.2.2.2.1])
 have HI : Hid (Tryz.prog.info? 51 = some i0 ∧ i0.zero = some (.slice none 0 0) ∧ i0.size = 1 ∧ i0.bytes = 24 ∧ m ≤ 4096) := ⟨H.out.2.2.2.2.2.2.2.2.2.1, H.out.2.2.2.2.2.2.2.2.2.2.1, H.out.2.2.2.2.2.2.2.2.2.2.2.1, H.out.2.2.2.2.2.2.2.2.2.2.2.2.1, H.out.2.2.2.2.2.2.2.2.2.2.2.2.2.2⟩
 rw [← hq]
 have e2 : q + 1 + 1 = q + 2 := rfl
 rw [e2]
 have HW : Hid (Blk (((w.alloc (.cells #[.int .i64 s.b] 3)).alloc (.cells #[.int .u64 seq, .slice A n C] 78)).alloc (.cells #[.int .i64 m] 3)) q [.int .i64 s.b] 3 ∧ Blk (((w.alloc (.cells #[.int .i64 s.b] 3)).alloc (.cells #[.int .u64 seq, .slice A n C] 78)).alloc (.cells #[.int .i64 m] 3)) (q + 1) [.int .u64 seq, .slice A n C] 78 ∧ Blk (((w.alloc (.cells #[.int .i64 s.b] 3)).alloc (.cells #[.int .u64 seq, .slice A n C] 78)).alloc (.cells #[.int .i64 m] 3)) (q + 2) [.int .i64 m] 3 ∧ Below q w (((w.alloc (.cells #[.int .i64 s.b] 3)).alloc (.cells #[.int .u64 seq, .slice A n C] 78)).alloc (.cells #[.int .i64 m] 3)) ∧ (((w.alloc (.cells #[.int .i64 s.b] 3)).alloc (.cells #[.int .u64 seq, .slice A n C] 78)).alloc (.cells #[.int .i64 m] 3)).heap.size = q + 3) :=
  ⟨((Blk.new' hq.symm rfl).alloc _).alloc _, (Blk.new' (by simp [hq]) rfl).alloc _, Blk.new' (by simp [hq]) rfl, (((Below.refl q w).alloc (by omega) _).alloc (by simp [hq]) _).alloc (by simp [hq]; omega) _, by simp [hq]⟩
 clear hq e2 w1 w2 w3 w4
 generalize hW : World.alloc _ _ = W1 at HW ⊢
 clear hW
 have c1 : W1.cell? ⟨q + 1, 1, none⟩ = some (.slice A n C) := HW.out.2.1.cell 1
 have c2 : W1.cell? ⟨q + 2, 0, none⟩ = some (.int .i64 m) := HW.out.2.2.1.cell 0
 have c0 : W1.cell? ⟨q + 1, 0, none⟩ = some (.int .u64 seq) := HW.out.2.1.cell 0
 go_upto_region 4 with (at_make; refine wpList_make_own W1 rfl _ (.tmp 21) 100 rfl q 51 i0 (.slice none 0 0) 1 Tryz.underlying100 HI.out.1 HI.out.2.1 HI.out.2.2.1 .i64 .i64 _ m rfl rfl (by have := HI.out.2.2.2.2; omega) (by rw [HI.out.2.2.2.1]; have := HI.out.2.2.2.2; omega) (by have := HI.out.2.2.2.2; unfold maxLen; omega) (by have := HW.out.2.2.2.2; omega) ?_; intro w2 ow2 gr2)
 have hK3 : Hid (Blk (w2.alloc (.cells #[.slice (some ⟨W1.heap.size, 0, none⟩) 0 m] 100)) w2.heap.size [.slice (some ⟨W1.heap.size, 0, none⟩) 0 m] 100 ∧ w2.ownsRow q 51 1 (.slice (some ⟨W1.heap.size, 0, none⟩) 0 m) 0 [] ∧ Below W1.heap.size W1 w2) := ⟨Blk.new' rfl rfl, ow2, (Below.refl _ _).grown gr2 (Nat.le_refl _) (fun g hg => by cases hg)⟩
 clear ow2 gr2
 obtain ⟨Lb, hLb⟩ : ∃ Lb, Lb = w2.heap.size := ⟨_, rfl⟩
 obtain ⟨v0, hv0⟩ : ∃ v0, v0 = Value.slice (some ⟨W1.heap.size, 0, none⟩) 0 m := ⟨_, rfl⟩
 have H3 : Hid (Blk (w2.alloc (.cells #[v0] 100)) Lb [v0] 100 ∧ RowAt (fun j => q ≤ j) (w2.alloc (.cells #[v0] 100)) v0 [] ∧ Below W1.heap.size W1 (w2.alloc (.cells #[v0] 100)) ∧ (w2.alloc (.cells #[v0] 100)).heap.size = Lb + 1 ∧ q + 3 ≤ Lb) := by
  rw [hLb, hv0]
  obtain ⟨h1, h2, h3⟩ := hK3.out
  refine ⟨h1, ⟨[], own_zero (h2.alloc _), fun r e => (h2.lt r e).1, BsAt.nil _ _, by simp⟩, h3.alloc h3.size _, by simp, ?_⟩
  have := h3.size
  rw [HW.out.2.2.2.2] at this
  exact this
 rw [← hLb, ← hv0]
 clear hK3 hLb hv0
 generalize hW3 : World.alloc w2 _ = W3 at H3 ⊢
 have d1 : W3.cell? ⟨q + 1, 1, none⟩ = some (.slice A n C) := (HW.out.2.1.below H3.out.2.2.1 HW.out.2.1.lt).cell 1
 clear c0 c1 c2 hW3
 obtain ⟨B1, hB1⟩ : ∃ B1, B1 = Lb + 1 := ⟨_, rfl⟩
 have hsz3 : W3.heap.size = B1 := by rw [hB1]; exact H3.out.2.2.2.1
 have HB1 : Hid (B1 = Lb + 1) := hB1
 clear hB1
 go_wp2_with (go_at_call 158; refine (kparts_of A n C r _).mono ?_; rintro e W4 ⟨rfl, hw4⟩; replace hw4 := hw4.symm; subst hw4)
 obtain ⟨ls, hls⟩ : ∃ ls, ls = ckL s seq ps := ⟨_, rfl⟩
 have HV : Hid (WrSt w q Lb B1 (B1 + 1) s.b seq A n C m r ls 0 ((W3.alloc (.cells #[.slice A n C] 76)).alloc (.cells #[.int .i64 r] 3))) := by
  obtain ⟨h1, h2, h3, h4, h5⟩ := H3.out
  have hb := HW.out.2.2.2.1.trans (h3.mono (by have := HW.out.2.2.2.2; omega))
  have hqL : q ≤ Lb := by omega
  refine ⟨(hb.alloc (by omega) _).alloc (by simp; omega) _, (((HW.out.1.below h3 HW.out.1.lt).alloc _).alloc _), (((HW.out.2.1.below h3 HW.out.2.1.lt).alloc _).alloc _), (((HW.out.2.2.1.below h3 HW.out.2.2.1.lt).alloc _).alloc _), (Blk.new' hsz3 rfl).alloc _, Blk.new' (by simp [hsz3]) rfl, ⟨v0, (h1.alloc _).alloc _, ?_⟩, hqL, H.out.2.2.2.2.2.1⟩
  have := h2.out (below_out Non (((Below.refl W3.heap.size W3).alloc (Nat.le_refl _) (.cells #[.slice A n C] 76)).alloc (by simp) (.cells #[.int .i64 r] 3))) (fun _ _ => id) (fun _ _ _ _ => id)
  simpa using this
 have hsz4 : ((W3.alloc (.cells #[.slice A n C] 76)).alloc (.cells #[.int .i64 r] 3)).heap.size = B1 + 2 := by simp [hsz3]
 generalize hW4 : World.alloc _ _ = W4 at HV hsz4 ⊢
 have HQ : Hid (q ≤ B1 ∧ ls = ckL s seq ps) := ⟨by have := H3.out.2.2.2.2; have := HB1.out; omega, hls⟩
 clear hW4 d1 hsz3 hls
 refine wpIn_wide.1 (wpIn_range (n := 5) (gf := 216) (lb := #[.pointer (some ⟨B1, 0, none⟩), .pointer (some ⟨B1 + 1, 0, none⟩)]) rfl (enters_of Tryz.func216 (by kernel_rfl) rfl)
  (WrSt w q Lb B1 (B1 + 1) s.b seq A n C m r ls)
  (fun k x W => WrSt w q Lb B1 (B1 + 1) s.b seq A n C m r ls k W ∧ k < m ∧ ∃ A' n' C', x = .slice A' n' C' ∧ KIn W A' n' (partK r k ps))
  (fun W => WrSt w q Lb B1 (B1 + 1) s.b seq A n C m r ls m W)
  (fun k W W' h hc => h.calm hc (by have := HQ.out.1; omega)) (fun k x W W' h hc => ⟨h.1.calm hc (by have := HQ.out.1; omega), h.2.1, by obtain ⟨A', n', C', h1, h2⟩ := h.2.2; exact ⟨A', n', C', h1, KIn.calm hc h2⟩⟩) (fun W W' h hc => h.calm hc (by have := HQ.out.1; omega))
  (fun o o' => HV.out.under (((Below.refl _ _).alloc (Nat.le_refl _) _).alloc (by simp) _))
  (fun x => { tmps := #[.int .i64 s.b, .agg #[.int .u64 seq, .slice A n C], .pointer (some ⟨q, 0, none⟩), .pointer (some ⟨q + 1, 0, none⟩), .slice none 0 0, .int .i64 r, .pointer (some ⟨q + 2, 0, none⟩), .pointer (some ⟨Lb, 0, none⟩), x, undef, .int .i64 s.b, .int .i64 r, .pointer (some ⟨q + 1, 1, none⟩), .slice A n C, .int .i64 n, .int .i64 r, .int .i64 ((n : Int) + r), .int .i64 ((n + r - 1 : Nat) : Int), .int .i64 r, .int .i64 X, .int .i64 m, .int .i64 m, v0, .pointer (some ⟨q + 1, 1, none⟩), .slice A n C, .int .i64 r, .func (.func 216) #[] #[.pointer (some ⟨B1, 0, none⟩), .pointer (some ⟨B1 + 1, 0, none⟩)], x, undef, undef, undef, undef, undef, undef, undef, undef, undef, undef, undef, undef, undef, undef, undef, undef, undef, undef, undef, undef, undef], defers := [] }) ?assign ?body ?iter ?done)
 case assign =>
  rintro l k x W K ⟨_, _, A', n', C', rfl, _⟩ hK
  gi_wp2
  exact hK
 case body =>
  rintro l R k x W hbk ⟨hst, hkm, A', n', C', rfl, hkin⟩
  obtain ⟨v, o1, o2⟩ := hst.o
  have hlsl : ls.length = m := by rw [HQ.out.2, ckL_length]; exact H.out.2.2.2.2.2.2.2.1.symm
  have htl : (ls.take k).length = k := by rw [List.length_take]; omega
  obtain ⟨av, cv, hv⟩ := o2.slice
  rw [htl] at hv
  subst hv
  have hnr : n' ≤ r := by rw [← hkin.1]; exact partK_length_le _ _ _
  have hm4 := H.out.2.2.2.2.2.2.2.2.2.2.2.2.2.2
  have hrb := HR.out
  have c0 : W.cell? ⟨q + 1, 0, none⟩ = some (.int .u64 seq) := hst.b1.cell 0
  have c2 : W.cell? ⟨q + 2, 0, none⟩ = some (.int .i64 m) := hst.b2.cell 0
  have c3 : W.cell? ⟨Lb, 0, none⟩ = some (.slice av k cv) := o1.cell 0
  have u1 : IntKind.u64.wrap (k : Int) = k := by rw [IntKind.wrap_u64]; omega
  have u2 : IntKind.u64.wrap (m : Int) = m := by rw [IntKind.wrap_u64]; omega
  have u3 : IntKind.u64.wrap (n' : Int) = n' := by rw [IntKind.wrap_u64]; omega
  have g0 : ∀ o, (W.alloc o).cell? ⟨q + 1, 0, none⟩ = some (.int .u64 seq) := fun o => (hst.b1.alloc o).cell 0
  have g2 : ∀ o, (W.alloc o).cell? ⟨q + 2, 0, none⟩ = some (.int .i64 m) := fun o => (hst.b2.alloc o).cell 0
  have g3 : ∀ o, (W.alloc o).cell? ⟨Lb, 0, none⟩ = some (.slice av k cv) := fun o => (o1.alloc o).cell 0
  have i0 : ∀ o p, ((W.alloc o).alloc p).cell? ⟨q + 1, 0, none⟩ = some (.int .u64 seq) := fun o p => ((hst.b1.alloc o).alloc p).cell 0
  have i2 : ∀ o p, ((W.alloc o).alloc p).cell? ⟨q + 2, 0, none⟩ = some (.int .i64 m) := fun o p => ((hst.b2.alloc o).alloc p).cell 0
  have i3 : ∀ o p, ((W.alloc o).alloc p).cell? ⟨Lb, 0, none⟩ = some (.slice av k cv) := fun o p => ((o1.alloc o).alloc p).cell 0
  have HL : Hid (∀ (X : World) (g : Nat), X.heap.size = g → NIn .u64 (X.alloc (.cells #[.int .u64 1129009236, .int .u64 0, .int .u64 k, .int .u64 m, .int .u64 seq, .int .u64 n'] 36)) (some ⟨g, 0, none⟩) 6 (hkV k m seq n')) := lit_hk (by unfold FitsU; omega) (by unfold FitsU; omega) H.out.2.2.1 (by unfold FitsU; omega)
  have HS : Hid (WrSt w q Lb B1 (B1 + 1) s.b seq A n C m r ls k W ∧ Book R W4.heap.size W ∧ k < m ∧ KIn W A' n' (partK r k ps) ∧ Blk W Lb [.slice av k cv] 100 ∧ RowAt (fun j => q ≤ j) W (.slice av k cv) (ls.take k) ∧ n' ≤ r) := ⟨hst, hbk, hkm, hkin, o1, o2, hnr⟩
  clear hst hbk hkm hkin o1 o2 hnr hm4 hrb hlsl htl
  have hmix : Tryz.prog.follows .mixedOrders = true := by kernel_rfl
  have hfw : ∀ f, Fence.wide.fn f = True := fun _ => rfl
  have hdw : Fence.wide.depth.isSome = false := rfl
  gi_wp2
  refine wpIn_mono (Q := fun e a' U => e = .normal ∧ ∃ (u28 u39 : Value) (a8 : Option Addr) (c8 : Nat), a' = { tmps := #[.int .i64 s.b, .agg #[.int .u64 seq, .slice A n C], .pointer (some ⟨q, 0, none⟩), .pointer (some ⟨q + 1, 0, none⟩), .slice none 0 0, .int .i64 r, .pointer (some ⟨q + 2, 0, none⟩), .pointer (some ⟨Lb, 0, none⟩), .slice A' n' C', .slice a8 26 c8, .int .i64 s.b, .int .i64 r, .pointer (some ⟨q + 1, 1, none⟩), .slice A n C, .int .i64 n, .int .i64 r, .int .i64 ((n : Int) + r), .int .i64 ((n + r - 1 : Nat) : Int), .int .i64 r, .int .i64 X, .int .i64 m, .int .i64 m, v0, .pointer (some ⟨q + 1, 1, none⟩), .slice A n C, .int .i64 r, .func (.func 216) #[] #[.pointer (some ⟨B1, 0, none⟩), .pointer (some ⟨B1 + 1, 0, none⟩)], .slice A' n' C', u28, .slice av k cv, .int .i64 k, .int .u64 k, .int .i64 m, .int .u64 m, .pointer (some ⟨q + 1, 0, none⟩), .int .u64 seq, .slice A' n' C', .int .i64 n', .int .u64 n', u39, .slice a8 26 c8, undef, undef, undef, undef, undef, undef, undef, undef], defers := [] } ∧ U.ownsRow W.heap.size 5 1 (.slice a8 26 c8) 26 (u8s (hkB k m seq n')) ∧ Below W.heap.size W U) ?r6 ?c6
  case r6 =>
   refine region_round (S := fun Y => Y.cell? ⟨Lb, 0, none⟩ = some (.slice av k cv) ∧ Y.cell? ⟨q + 2, 0, none⟩ = some (.int .i64 m) ∧ Y.cell? ⟨q + 1, 0, none⟩ = some (.int .u64 seq)) hmix (by rintro ⟨_, _, h, _⟩; cases h) (by kernel_rfl) (by exact ⟨c3, c2, c0⟩) (fun hS => ?_)
   refine wpAnyH_take (i := 1) (oi := { dst := some 29, op := Op.load 100 (Operand.tmp 7), type := 100, pos := "ckpt.go:153", after := #[], guard := none }) (v := .slice av k cv) rfl (by kernel_rfl) (by kernel_rfl) (by kernel_rfl) (fun _ _ _ h => by cases h.1) (Or.inl ⟨by rfl, fun Y hY => by (try dsimp only at hY); go_simp⟩) hS ?_
   simp only [Act.put, List.setIfInBounds_toArray, List.set_cons_zero, List.set_cons_succ]
   refine wpAnyH_take (i := 2) (oi := { dst := some 30, op := Op.call { callee := Callee.builtin Builtin.len, args := #[Operand.tmp 29], argTypes := #[100] }, type := 3, pos := "ckpt.go:153", after := #[{ on := 1, ground := Ground.data }], guard := none }) (v := .int .i64 k) rfl (by kernel_rfl) (by kernel_rfl) (by kernel_rfl) (fun _ _ _ h => by cases h.1) (Or.inl ⟨by rfl, fun Y hY => by (try dsimp only at hY); go_simp⟩) hS ?_
   simp only [Act.put, List.setIfInBounds_toArray, List.set_cons_zero, List.set_cons_succ]
   refine wpAnyH_take (i := 3) (oi := { dst := some 31, op := Op.convert 3 36 (Operand.tmp 30), type := 36, pos := "ckpt.go:153", after := #[{ on := 2, ground := Ground.data }], guard := none }) (v := .int .u64 k) rfl (by kernel_rfl) (by kernel_rfl) (by kernel_rfl) (fun _ _ _ h => by cases h.1) (Or.inl ⟨by rfl, fun Y hY => by (try dsimp only at hY); go_simp⟩) hS ?_
   simp only [Act.put, List.setIfInBounds_toArray, List.set_cons_zero, List.set_cons_succ]
   refine wpAnyH_take (i := 4) (oi := { dst := some 32, op := Op.load 3 (Operand.tmp 6), type := 3, pos := "ckpt.go:153", after := #[], guard := none }) (v := .int .i64 m) rfl (by kernel_rfl) (by kernel_rfl) (by kernel_rfl) (fun _ _ _ h => by cases h.1) (Or.inl ⟨by rfl, fun Y hY => by (try dsimp only at hY); go_simp⟩) hS ?_
   simp only [Act.put, List.setIfInBounds_toArray, List.set_cons_zero, List.set_cons_succ]
   refine wpAnyH_take (i := 5) (oi := { dst := some 33, op := Op.convert 3 36 (Operand.tmp 32), type := 36, pos := "ckpt.go:153", after := #[{ on := 4, ground := Ground.data }], guard := none }) (v := .int .u64 m) rfl (by kernel_rfl) (by kernel_rfl) (by kernel_rfl) (fun _ _ _ h => by cases h.1) (Or.inl ⟨by rfl, fun Y hY => by (try dsimp only at hY); go_simp⟩) hS ?_
   simp only [Act.put, List.setIfInBounds_toArray, List.set_cons_zero, List.set_cons_succ]
   refine wpAnyH_take (i := 6) (oi := { dst := some 34, op := Op.fieldAddr 78 (Operand.tmp 3) 0, type := 0, pos := "ckpt.go:153", after := #[], guard := none }) (v := .pointer (some ⟨q + 1, 0, none⟩)) rfl (by kernel_rfl) (by kernel_rfl) (by kernel_rfl) (fun _ _ _ h => by cases h.1) (Or.inl ⟨by rfl, fun Y hY => by (try dsimp only at hY); go_simp⟩) hS ?_
   simp only [Act.put, List.setIfInBounds_toArray, List.set_cons_zero, List.set_cons_succ]
   refine wpAnyH_take (i := 7) (oi := { dst := some 35, op := Op.load 36 (Operand.tmp 34), type := 36, pos := "ckpt.go:153", after := #[{ on := 6, ground := Ground.data }], guard := none }) (v := .int .u64 seq) rfl (by kernel_rfl) (by kernel_rfl) (by kernel_rfl) (fun _ _ _ h => by cases h.1) (Or.inl ⟨by rfl, fun Y hY => by (try dsimp only at hY); go_simp⟩) hS ?_
   simp only [Act.put, List.setIfInBounds_toArray, List.set_cons_zero, List.set_cons_succ]
   refine wpAnyH_take (i := 8) (oi := { dst := some 36, op := Op.move (Operand.tmp 8), type := 76, pos := "ckpt.go:153", after := #[], guard := none }) (v := .slice A' n' C') rfl (by kernel_rfl) (by kernel_rfl) (by kernel_rfl) (fun _ _ _ h => by cases h.1) (Or.inl ⟨by rfl, fun Y hY => by (try dsimp only at hY); go_simp⟩) hS ?_
   simp only [Act.put, List.setIfInBounds_toArray, List.set_cons_zero, List.set_cons_succ]
   refine wpAnyH_take (i := 9) (oi := { dst := some 37, op := Op.call { callee := Callee.builtin Builtin.len, args := #[Operand.tmp 36], argTypes := #[76] }, type := 3, pos := "ckpt.go:153", after := #[{ on := 8, ground := Ground.data }], guard := none }) (v := .int .i64 n') rfl (by kernel_rfl) (by kernel_rfl) (by kernel_rfl) (fun _ _ _ h => by cases h.1) (Or.inl ⟨by rfl, fun Y hY => by (try dsimp only at hY); go_simp⟩) hS ?_
   simp only [Act.put, List.setIfInBounds_toArray, List.set_cons_zero, List.set_cons_succ]
   refine wpAnyH_take (i := 10) (oi := { dst := some 38, op := Op.convert 3 36 (Operand.tmp 37), type := 36, pos := "ckpt.go:153", after := #[{ on := 9, ground := Ground.data }], guard := none }) (v := .int .u64 n') rfl (by kernel_rfl) (by kernel_rfl) (by kernel_rfl) (fun _ _ _ h => by cases h.1) (Or.inl ⟨by rfl, fun Y hY => by (try dsimp only at hY); go_simp⟩) hS ?_
   simp only [Act.put, List.setIfInBounds_toArray, List.set_cons_zero, List.set_cons_succ]
   refine wpAnyH_ready (rs := [0, 11]) (by kernel_rfl) (by simp) (AllReadyH.cons (o := { dst := some 28, op := Op.call { callee := Callee.value (Operand.func 160), args := #[], argTypes := #[] }, type := 38, pos := "ckpt.go:153", after := #[], guard := none }) rfl (fun KK hK => ?ga) (AllReadyH.cons (o := { dst := some 39, op := Op.buildSlice 82 6 #[(0, Operand.const (Value.int IntKind.u64 1129009236)), (1, Operand.const (Value.int IntKind.u64 0)), (2, Operand.tmp 31), (3, Operand.tmp 33), (4, Operand.tmp 35), (5, Operand.tmp 38)], type := 82, pos := "ckpt.go:153", after := #[{ on := 3, ground := Ground.data }, { on := 5, ground := Ground.data }, { on := 7, ground := Ground.data }, { on := 10, ground := Ground.data }], guard := none }) rfl (fun KK hK => ?gb) AllReadyH.nil))
   case ga =>
    go_simp
    refine (khead_of _).mono ?_; rintro e V1 ⟨rfl, rfl⟩
    refine hK.out _ _ (by exact ⟨g3 _, g2 _, g0 _⟩) (fun hS1 => ?_)
    clear hK KK
    try simp only [Act.put, List.setIfInBounds_toArray, List.set_cons_zero, List.set_cons_succ]
    refine wpAnyH_ready (rs := [11]) (by kernel_rfl) (by simp) (AllReadyH.cons (o := { dst := some 39, op := Op.buildSlice 82 6 #[(0, Operand.const (Value.int IntKind.u64 1129009236)), (1, Operand.const (Value.int IntKind.u64 0)), (2, Operand.tmp 31), (3, Operand.tmp 33), (4, Operand.tmp 35), (5, Operand.tmp 38)], type := 82, pos := "ckpt.go:153", after := #[{ on := 3, ground := Ground.data }, { on := 5, ground := Ground.data }, { on := 7, ground := Ground.data }, { on := 10, ground := Ground.data }], guard := none }) rfl (fun KK hK => ?_) AllReadyH.nil)
    go_simp
    refine hK.out _ _ (by exact ⟨i3 _ _, i2 _ _, i0 _ _⟩) (fun hS2 => ?_)
    clear hK KK
    try simp only [Act.put, List.setIfInBounds_toArray, List.set_cons_zero, List.set_cons_succ]
    refine wpAnyH_ready (rs := [12]) (by kernel_rfl) (by simp) (AllReadyH.cons (o := { dst := some 40, op := Op.call { callee := Callee.value (Operand.func 159), args := #[Operand.tmp 28, Operand.tmp 39], argTypes := #[38, 82] }, type := 51, pos := "ckpt.go:153", after := #[{ on := 0, ground := Ground.data }, { on := 11, ground := Ground.data }, { on := 0, ground := Ground.chain }], guard := none }) rfl (fun KK hK => ?_) AllReadyH.nil)
    go_simp
    refine (kpack_two (ws := hkW) (vs := hkV k m seq n') rfl (by first | exact (nin_hk rfl).alloc _ | exact nin_hk (by simp)) (by first | exact HL.out _ _ (by simp) | exact (HL.out _ _ rfl).alloc _) (by omega) (by omega)).mono ?_
    rintro e V2 ⟨a8, k8, c8, rfl, h8, o8, b8⟩
    obtain rfl : k8 = 26 := h8.trans (hkB_length _ _ _ _)
    clear h8
    refine hK.out _ _ (by exact ⟨(HS.out.2.2.2.2.1.below b8 HS.out.2.2.2.2.1.lt).cell 0, (HS.out.1.b2.below b8 HS.out.1.b2.lt).cell 0, (HS.out.1.b1.below b8 HS.out.1.b1.lt).cell 0⟩) (fun hS3 => ?_)
    clear hK KK
    try simp only [Act.put, List.setIfInBounds_toArray, List.set_cons_zero, List.set_cons_succ]
    refine wpAnyH_take (i := 13) (oi := { dst := some 9, op := Op.assign (Operand.tmp 40), type := 51, pos := "ckpt.go:153", after := #[{ on := 12, ground := Ground.data }, { on := 12, ground := Ground.chain }, { on := 0, ground := Ground.phase }, { on := 1, ground := Ground.phase }, { on := 2, ground := Ground.phase }, { on := 3, ground := Ground.phase }, { on := 4, ground := Ground.phase }, { on := 5, ground := Ground.phase }, { on := 6, ground := Ground.phase }, { on := 7, ground := Ground.phase }, { on := 8, ground := Ground.phase }, { on := 9, ground := Ground.phase }, { on := 10, ground := Ground.phase }, { on := 11, ground := Ground.phase }, { on := 12, ground := Ground.phase }], guard := none }) (v := .slice a8 26 c8) rfl (by kernel_rfl) (by kernel_rfl) (by kernel_rfl) (fun _ _ _ h => by cases h.1) (Or.inl ⟨by rfl, fun Y hY => by (try dsimp only at hY); go_simp⟩) hS3 ?_
    simp only [Act.put, List.setIfInBounds_toArray, List.set_cons_zero, List.set_cons_succ]
    refine wpAnyH_done (by kernel_rfl) ?_ _
    exact ⟨rfl, _, _, a8, c8, rfl, o8, b8⟩
   case gb =>
    go_simp
    refine hK.out _ _ (by exact ⟨g3 _, g2 _, g0 _⟩) (fun hS1 => ?_)
    clear hK KK
    try simp only [Act.put, List.setIfInBounds_toArray, List.set_cons_zero, List.set_cons_succ]
    refine wpAnyH_ready (rs := [0]) (by kernel_rfl) (by simp) (AllReadyH.cons (o := { dst := some 28, op := Op.call { callee := Callee.value (Operand.func 160), args := #[], argTypes := #[] }, type := 38, pos := "ckpt.go:153", after := #[], guard := none }) rfl (fun KK hK => ?_) AllReadyH.nil)
    go_simp
    refine (khead_of _).mono ?_; rintro e V1 ⟨rfl, rfl⟩
    refine hK.out _ _ (by exact ⟨i3 _ _, i2 _ _, i0 _ _⟩) (fun hS2 => ?_)
    clear hK KK
    try simp only [Act.put, List.setIfInBounds_toArray, List.set_cons_zero, List.set_cons_succ]
    refine wpAnyH_ready (rs := [12]) (by kernel_rfl) (by simp) (AllReadyH.cons (o := { dst := some 40, op := Op.call { callee := Callee.value (Operand.func 159), args := #[Operand.tmp 28, Operand.tmp 39], argTypes := #[38, 82] }, type := 51, pos := "ckpt.go:153", after := #[{ on := 0, ground := Ground.data }, { on := 11, ground := Ground.data }, { on := 0, ground := Ground.chain }], guard := none }) rfl (fun KK hK => ?_) AllReadyH.nil)
    go_simp
    refine (kpack_two (ws := hkW) (vs := hkV k m seq n') rfl (by first | exact (nin_hk rfl).alloc _ | exact nin_hk (by simp)) (by first | exact HL.out _ _ (by simp) | exact (HL.out _ _ rfl).alloc _) (by omega) (by omega)).mono ?_
    rintro e V2 ⟨a8, k8, c8, rfl, h8, o8, b8⟩
    obtain rfl : k8 = 26 := h8.trans (hkB_length _ _ _ _)
    clear h8
    refine hK.out _ _ (by exact ⟨(HS.out.2.2.2.2.1.below b8 HS.out.2.2.2.2.1.lt).cell 0, (HS.out.1.b2.below b8 HS.out.1.b2.lt).cell 0, (HS.out.1.b1.below b8 HS.out.1.b1.lt).cell 0⟩) (fun hS3 => ?_)
    clear hK KK
    try simp only [Act.put, List.setIfInBounds_toArray, List.set_cons_zero, List.set_cons_succ]
    refine wpAnyH_take (i := 13) (oi := { dst := some 9, op := Op.assign (Operand.tmp 40), type := 51, pos := "ckpt.go:153", after := #[{ on := 12, ground := Ground.data }, { on := 12, ground := Ground.chain }, { on := 0, ground := Ground.phase }, { on := 1, ground := Ground.phase }, { on := 2, ground := Ground.phase }, { on := 3, ground := Ground.phase }, { on := 4, ground := Ground.phase }, { on := 5, ground := Ground.phase }, { on := 6, ground := Ground.phase }, { on := 7, ground := Ground.phase }, { on := 8, ground := Ground.phase }, { on := 9, ground := Ground.phase }, { on := 10, ground := Ground.phase }, { on := 11, ground := Ground.phase }, { on := 12, ground := Ground.phase }], guard := none }) (v := .slice a8 26 c8) rfl (by kernel_rfl) (by kernel_rfl) (by kernel_rfl) (fun _ _ _ h => by cases h.1) (Or.inl ⟨by rfl, fun Y hY => by (try dsimp only at hY); go_simp⟩) hS3 ?_
    simp only [Act.put, List.setIfInBounds_toArray, List.set_cons_zero, List.set_cons_succ]
    refine wpAnyH_done (by kernel_rfl) ?_ _
    exact ⟨rfl, _, _, a8, c8, rfl, o8, b8⟩
  rintro e a' U ⟨rfl, u28, u39, a8, c8, rfl, o8, b8⟩
  clear c0 c2 c3 u1 u2 u3 g0 g2 g3 i0 i2 i3 HL
  obtain ⟨N, hN⟩ : ∃ N : Nat, s.b = N := ⟨s.b.toNat, by have := pow_bounds (show s.b ∈ PowR from H.out.2.2.2.1.2.2.2.2.1); omega⟩
  have hNN : N = s.b.toNat := by omega
  have hstU := HS.out.1.under b8
  have e0 : U.cell? ⟨q, 0, none⟩ = some (.int .i64 s.b) := hstU.b0.cell 0
  have lbU := HS.out.2.2.2.2.1.below b8 HS.out.2.2.2.2.1.lt
  have e3 : U.cell? ⟨Lb, 0, none⟩ = some (.slice av k cv) := lbU.cell 0
  have HC : Hid (Calls Tryz.prog 161 #[.int .i64 s.b, .slice a8 26 c8, .slice A' n' C'] U.drew fun e Z => ∃ gx Cx, e = .returned (.slice (some ⟨gx, 0, none⟩) N Cx) ∧ Below U.heap.size U Z ∧ Z.cell? ⟨q, 0, none⟩ = some (.int .i64 s.b) ∧ (∀ o, (Z.alloc o).cell? ⟨q, 0, none⟩ = some (.int .i64 s.b)) ∧ Z.cell? ⟨Lb, 0, none⟩ = some (.slice av k cv) ∧ (∀ o, (Z.alloc o).cell? ⟨Lb, 0, none⟩ = some (.slice av k cv)) ∧ ∃ a9 c9 w9, (Builtin.append_ #[100, 100] 100 #[.slice av k cv, .slice (some ⟨Z.heap.size, 0, none⟩) 1 1]).run Tryz.prog (Z.alloc (.cells #[.slice (some ⟨gx, 0, none⟩) N Cx] 51)) = .ok (.slice a9 (k + 1) c9) w9 ∧ w9.cell? ⟨Lb, 0, none⟩ = some (.slice av k cv) ∧ w9.frozen? ⟨Lb, 0, none⟩ = false ∧ w9.cell? ⟨q, 0, none⟩ = some (.int .i64 s.b) ∧ (w9.setCell ⟨Lb, 0, none⟩ (.slice a9 (k + 1) c9)).cell? ⟨q, 0, none⟩ = some (.int .i64 s.b) ∧ Book R W4.heap.size (w9.setCell ⟨Lb, 0, none⟩ (.slice a9 (k + 1) c9)) ∧ WrSt w q Lb B1 (B1 + 1) s.b seq A n C m r ls (k + 1) (w9.setCell ⟨Lb, 0, none⟩ (.slice a9 (k + 1) c9))) := by
   rw [hN]
   have hrb := HR.out
   have hpb := pow_bounds (show s.b ∈ PowR from H.out.2.2.2.1.2.2.2.2.1)
   have hroom : 28 + 16 * r ≤ N := by
    have h1 := H.out.2.2.2.2.2.2.1
    have h2 : s.b ∈ PowR := H.out.2.2.2.1.2.2.2.2.1
    unfold roomK at h1
    rw [if_pos h2] at h1
    have h3 := pow_mod h2
    omega
   have hkU : KIn U.drew A' n' (partK r k ps) := (HS.out.2.2.2.1.below b8).drew
   have hbU : BIn U.drew a8 26 (hkB k m seq n') := (own_bin o8 (by unfold maxLen; omega) (hkB_fits _ _ _ _)).below (Below.refl _ _).drew
   refine (ksealed_of N a8 c8 (hkB k m seq n') A' n' C' (partK r k ps) U.drew hbU (own_nil o8) hkU (fun p hp => H.out.2.2.2.2.1 p (part_mem hp)) (by have := HS.out.2.2.2.2.2.2; omega) (by omega)).mono ?_
   rintro e Z ⟨gx, Cx, rfl, oZ, bZ⟩
   have bZ' : Below U.heap.size U Z := (Below.refl _ _).drew.trans bZ
   have hstZ := hstU.under bZ'
   have lbZ := lbU.below bZ' lbU.lt
   have hbkZ := (HS.out.2.1.below b8).below bZ'
   have hn' : n' = (partK r k ps).length := HS.out.2.2.2.1.1.symm
   have hD : ls[k]? = some (ckB N k m seq (partK r k ps)) := by
    have h1 := ckL_at (s := s) (seq := seq) (ps := ps) (i := k) (by rw [← H.out.2.2.2.2.2.2.2.1]; exact HS.out.2.2.1)
    rw [H.out.2.2.2.2.2.2.2.2.1, ← H.out.2.2.2.2.2.2.2.1, ← hNN] at h1
    rw [HQ.out.2]; exact h1
   have hcell : joinL (hkB k m seq n' ++ plsB (partK r k ps) ++ List.replicate (N - 1 - (26 + 16 * n')) 0 ++ [231]) = ckB N k m seq (partK r k ps) := by
    rw [hn']; rfl
   rw [hcell] at oZ
   have hDl : (ckB N k m seq (partK r k ps)).length = N := ckB_length (by have := HS.out.2.2.2.2.2.2; rw [← hn']; omega)
   have hsz : q ≤ U.heap.size := by have := lbU.lt; have := hstU.ne.1; omega
   have hbk : BkAt (fun j => q ≤ j) Z (.slice (some ⟨gx, 0, none⟩) N Cx) (ckB N k m seq (partK r k ps)) := ⟨by rw [hDl]; exact own_zero oZ, fun c hc => Nat.le_trans hsz (oZ.lt c hc).1, ckB_fits, by rw [hDl]; omega⟩
   have rowZ : RowAt (fun j => q ≤ j) Z (.slice av k cv) (ls.take k) := (HS.out.2.2.2.2.2.1.out (below_out Non b8) (fun _ _ => id) (fun _ _ _ _ => id)).out (below_out Non bZ') (fun _ _ => id) (fun _ _ _ _ => id)
   have htl : (ls.take k).length = k := by rw [List.length_take, HQ.out.2, ckL_length, ← H.out.2.2.2.2.2.2.2.1]; have := HS.out.2.2.1; omega
   have hm4 := H.out.2.2.2.2.2.2.2.2.2.2.2.2.2.2
   obtain ⟨a9, c9, w9, e9, r9, g9, _⟩ := app_row rowZ hbk rfl (by rw [htl]; have := HS.out.2.2.1; omega) (fun j hj => by have := bZ'.size; omega)
   rw [htl] at e9 r9
   obtain ⟨vs, hvs⟩ : ∃ vs, Z.ownsRow 0 51 1 (.slice av k cv) (ls.take k).length vs := by obtain ⟨vs, h, _⟩ := rowZ; exact ⟨vs, h⟩
   have lb9 : Blk w9 Lb [.slice av k cv] 100 := (lbZ.alloc _).grown (by decide) (hvs.alloc _) g9
   have q9 : Blk w9 q [.int .i64 s.b] 3 := (hstZ.b0.alloc _).grown (by decide) (hvs.alloc _) g9
   have h9 := hstZ.app hbkZ hD rowZ lbZ g9 r9
   rw [← hN]
   exact ⟨gx, Cx, rfl, bZ', hstZ.b0.cell 0, fun o => (hstZ.b0.alloc o).cell 0, lbZ.cell 0, fun o => (lbZ.alloc o).cell 0, a9, c9, w9, e9, lb9.cell 0, lb9.frozen 0, q9.cell 0, h9.1.b0.cell 0, h9.2, h9.1⟩
  clear o8 b8 hN hNN hstU lbU
  gi_wp2
  refine wpIn_mono (Q := fun e a' Z => e = .normal ∧ Book R W4.heap.size Z ∧ WrSt w q Lb B1 (B1 + 1) s.b seq A n C m r ls (k + 1) Z) ?r7 (by rintro e a' Z ⟨rfl, h1, h2⟩; exact ⟨rfl, h1, h2⟩)
  case r7 =>
   refine region_round (S := fun Y => Y.cell? ⟨q, 0, none⟩ = some (.int .i64 s.b)) hmix (by rintro ⟨_, _, h, _⟩; cases h) (by kernel_rfl) (by exact e0) (fun hS => ?_)
   refine wpAnyH_take (i := 1) (oi := { dst := some 42, op := Op.load 3 (Operand.tmp 2), type := 3, pos := "ckpt.go:154", after := #[], guard := none }) (v := .int .i64 s.b) rfl (by kernel_rfl) (by kernel_rfl) (by kernel_rfl) (fun _ _ _ h => by cases h.1) (Or.inl ⟨by rfl, fun Y hY => by (try dsimp only at hY); go_simp⟩) hS ?_
   simp only [Act.put, List.setIfInBounds_toArray, List.set_cons_zero, List.set_cons_succ]
   refine wpAnyH_take (i := 2) (oi := { dst := some 43, op := Op.move (Operand.tmp 9), type := 51, pos := "ckpt.go:154", after := #[], guard := none }) (v := .slice a8 26 c8) rfl (by kernel_rfl) (by kernel_rfl) (by kernel_rfl) (fun _ _ _ h => by cases h.1) (Or.inl ⟨by rfl, fun Y hY => by (try dsimp only at hY); go_simp⟩) hS ?_
   simp only [Act.put, List.setIfInBounds_toArray, List.set_cons_zero, List.set_cons_succ]
   refine wpAnyH_take (i := 3) (oi := { dst := some 44, op := Op.move (Operand.tmp 8), type := 76, pos := "ckpt.go:154", after := #[], guard := none }) (v := .slice A' n' C') rfl (by kernel_rfl) (by kernel_rfl) (by kernel_rfl) (fun _ _ _ h => by cases h.1) (Or.inl ⟨by rfl, fun Y hY => by (try dsimp only at hY); go_simp⟩) hS ?_
   simp only [Act.put, List.setIfInBounds_toArray, List.set_cons_zero, List.set_cons_succ]
   refine wpAnyH_ready (rs := [0, 4]) (by kernel_rfl) (by simp) (AllReadyH.cons (o := { dst := some 41, op := Op.load 100 (Operand.tmp 7), type := 100, pos := "ckpt.go:154", after := #[], guard := none }) rfl (fun KK hK => ?ha) (AllReadyH.cons (o := { dst := some 45, op := Op.call { callee := Callee.value (Operand.func 161), args := #[Operand.tmp 42, Operand.tmp 43, Operand.tmp 44], argTypes := #[3, 51, 76] }, type := 51, pos := "ckpt.go:154", after := #[{ on := 1, ground := Ground.data }, { on := 2, ground := Ground.data }, { on := 3, ground := Ground.data }], guard := none }) rfl (fun KK hK => ?hb) AllReadyH.nil))
   case ha =>
    go_simp
    refine hK.out _ _ (by exact e0) (fun hS1 => ?_)
    clear hK KK
    try simp only [Act.put, List.setIfInBounds_toArray, List.set_cons_zero, List.set_cons_succ]
    refine wpAnyH_ready (rs := [4]) (by kernel_rfl) (by simp) (AllReadyH.cons (o := { dst := some 45, op := Op.call { callee := Callee.value (Operand.func 161), args := #[Operand.tmp 42, Operand.tmp 43, Operand.tmp 44], argTypes := #[3, 51, 76] }, type := 51, pos := "ckpt.go:154", after := #[{ on := 1, ground := Ground.data }, { on := 2, ground := Ground.data }, { on := 3, ground := Ground.data }], guard := none }) rfl (fun KK hK => ?_) AllReadyH.nil)
    go_simp
    refine HC.out.mono ?_
    rintro e Z ⟨gx, Cx, rfl, bZ, z0, z1, z2, z3, a9, c9, w9, e9, m1, m2, m3, m4, h9⟩
    refine hK.out _ _ (by exact z0) (fun hS2 => ?_)
    clear hK KK
    try simp only [Act.put, List.setIfInBounds_toArray, List.set_cons_zero, List.set_cons_succ]
    refine wpAnyH_ready (rs := [5]) (by kernel_rfl) (by simp) (AllReadyH.cons (o := { dst := some 46, op := Op.buildSlice 100 1 #[(0, Operand.tmp 45)], type := 100, pos := "ckpt.go:154", after := #[{ on := 4, ground := Ground.data }], guard := none }) rfl (fun KK hK => ?_) AllReadyH.nil)
    go_simp
    refine hK.out _ _ (by exact z1 _) (fun hS3 => ?_)
    clear hK KK
    try simp only [Act.put, List.setIfInBounds_toArray, List.set_cons_zero, List.set_cons_succ]
    refine wpAnyH_ready (rs := [6]) (by kernel_rfl) (by simp) (AllReadyH.cons (o := { dst := some 47, op := Op.call { callee := Callee.builtin Builtin.append, args := #[Operand.tmp 41, Operand.tmp 46], argTypes := #[100, 100] }, type := 100, pos := "ckpt.go:154", after := #[{ on := 0, ground := Ground.data }, { on := 5, ground := Ground.data }, { on := 4, ground := Ground.chain }], guard := none }) rfl (fun KK hK => ?_) AllReadyH.nil)
    refine cstep_append_run rfl (.tmp 41) (.tmp 46) 100 100 rfl _ _ rfl rfl _ _ e9 ?_
    refine hK.out _ _ (by exact m3) (fun hS5 => ?_)
    clear hK KK
    try simp only [Act.put, List.setIfInBounds_toArray, List.set_cons_zero, List.set_cons_succ]
    refine wpAnyH_ready (rs := [7]) (by kernel_rfl) (by simp) (AllReadyH.cons (o := { dst := none, op := Op.store 100 (Operand.tmp 7) (Operand.tmp 47), type := 0, pos := "ckpt.go:154", after := #[{ on := 6, ground := Ground.data }, { on := 6, ground := Ground.chain }, { on := 0, ground := Ground.phase }, { on := 1, ground := Ground.phase }, { on := 2, ground := Ground.phase }, { on := 3, ground := Ground.phase }, { on := 4, ground := Ground.phase }, { on := 5, ground := Ground.phase }, { on := 6, ground := Ground.phase }], guard := none }) rfl (fun KK hK => ?_) AllReadyH.nil)
    go_simp
    refine hK.out _ _ (by exact m4) (fun hS6 => ?_)
    clear hK KK
    try simp only [Act.put, List.setIfInBounds_toArray, List.set_cons_zero, List.set_cons_succ]
    refine wpAnyH_done (by kernel_rfl) ?_ _
    exact ⟨rfl, h9⟩
   case hb =>
    go_simp
    refine HC.out.mono ?_
    rintro e Z ⟨gx, Cx, rfl, bZ, z0, z1, z2, z3, a9, c9, w9, e9, m1, m2, m3, m4, h9⟩
    refine hK.out _ _ (by exact z0) (fun hS1 => ?_)
    clear hK KK
    try simp only [Act.put, List.setIfInBounds_toArray, List.set_cons_zero, List.set_cons_succ]
    refine wpAnyH_ready (rs := [0, 5]) (by kernel_rfl) (by simp) (AllReadyH.cons (o := { dst := some 41, op := Op.load 100 (Operand.tmp 7), type := 100, pos := "ckpt.go:154", after := #[], guard := none }) rfl (fun KK hK => ?hc) (AllReadyH.cons (o := { dst := some 46, op := Op.buildSlice 100 1 #[(0, Operand.tmp 45)], type := 100, pos := "ckpt.go:154", after := #[{ on := 4, ground := Ground.data }], guard := none }) rfl (fun KK hK => ?hd) AllReadyH.nil))
    case hc =>
     go_simp
     refine hK.out _ _ (by exact z0) (fun hS2 => ?_)
     clear hK KK
     try simp only [Act.put, List.setIfInBounds_toArray, List.set_cons_zero, List.set_cons_succ]
     refine wpAnyH_ready (rs := [5]) (by kernel_rfl) (by simp) (AllReadyH.cons (o := { dst := some 46, op := Op.buildSlice 100 1 #[(0, Operand.tmp 45)], type := 100, pos := "ckpt.go:154", after := #[{ on := 4, ground := Ground.data }], guard := none }) rfl (fun KK hK => ?_) AllReadyH.nil)
     go_simp
     refine hK.out _ _ (by exact z1 _) (fun hS3 => ?_)
     clear hK KK
     try simp only [Act.put, List.setIfInBounds_toArray, List.set_cons_zero, List.set_cons_succ]
     refine wpAnyH_ready (rs := [6]) (by kernel_rfl) (by simp) (AllReadyH.cons (o := { dst := some 47, op := Op.call { callee := Callee.builtin Builtin.append, args := #[Operand.tmp 41, Operand.tmp 46], argTypes := #[100, 100] }, type := 100, pos := "ckpt.go:154", after := #[{ on := 0, ground := Ground.data }, { on := 5, ground := Ground.data }, { on := 4, ground := Ground.chain }], guard := none }) rfl (fun KK hK => ?_) AllReadyH.nil)
     refine cstep_append_run rfl (.tmp 41) (.tmp 46) 100 100 rfl _ _ rfl rfl _ _ e9 ?_
     refine hK.out _ _ (by exact m3) (fun hS5 => ?_)
     clear hK KK
     try simp only [Act.put, List.setIfInBounds_toArray, List.set_cons_zero, List.set_cons_succ]
     refine wpAnyH_ready (rs := [7]) (by kernel_rfl) (by simp) (AllReadyH.cons (o := { dst := none, op := Op.store 100 (Operand.tmp 7) (Operand.tmp 47), type := 0, pos := "ckpt.go:154", after := #[{ on := 6, ground := Ground.data }, { on := 6, ground := Ground.chain }, { on := 0, ground := Ground.phase }, { on := 1, ground := Ground.phase }, { on := 2, ground := Ground.phase }, { on := 3, ground := Ground.phase }, { on := 4, ground := Ground.phase }, { on := 5, ground := Ground.phase }, { on := 6, ground := Ground.phase }], guard := none }) rfl (fun KK hK => ?_) AllReadyH.nil)
     go_simp
     refine hK.out _ _ (by exact m4) (fun hS6 => ?_)
     clear hK KK
     try simp only [Act.put, List.setIfInBounds_toArray, List.set_cons_zero, List.set_cons_succ]
     refine wpAnyH_done (by kernel_rfl) ?_ _
     exact ⟨rfl, h9⟩
    case hd =>
     go_simp
     refine hK.out _ _ (by exact z1 _) (fun hS2 => ?_)
     clear hK KK
     try simp only [Act.put, List.setIfInBounds_toArray, List.set_cons_zero, List.set_cons_succ]
     refine wpAnyH_ready (rs := [0]) (by kernel_rfl) (by simp) (AllReadyH.cons (o := { dst := some 41, op := Op.load 100 (Operand.tmp 7), type := 100, pos := "ckpt.go:154", after := #[], guard := none }) rfl (fun KK hK => ?_) AllReadyH.nil)
     go_simp
     refine hK.out _ _ (by exact z1 _) (fun hS3 => ?_)
     clear hK KK
     try simp only [Act.put, List.setIfInBounds_toArray, List.set_cons_zero, List.set_cons_succ]
     refine wpAnyH_ready (rs := [6]) (by kernel_rfl) (by simp) (AllReadyH.cons (o := { dst := some 47, op := Op.call { callee := Callee.builtin Builtin.append, args := #[Operand.tmp 41, Operand.tmp 46], argTypes := #[100, 100] }, type := 100, pos := "ckpt.go:154", after := #[{ on := 0, ground := Ground.data }, { on := 5, ground := Ground.data }, { on := 4, ground := Ground.chain }], guard := none }) rfl (fun KK hK => ?_) AllReadyH.nil)
     refine cstep_append_run rfl (.tmp 41) (.tmp 46) 100 100 rfl _ _ rfl rfl _ _ e9 ?_
     refine hK.out _ _ (by exact m3) (fun hS5 => ?_)
     clear hK KK
     try simp only [Act.put, List.setIfInBounds_toArray, List.set_cons_zero, List.set_cons_succ]
     refine wpAnyH_ready (rs := [7]) (by kernel_rfl) (by simp) (AllReadyH.cons (o := { dst := none, op := Op.store 100 (Operand.tmp 7) (Operand.tmp 47), type := 0, pos := "ckpt.go:154", after := #[{ on := 6, ground := Ground.data }, { on := 6, ground := Ground.chain }, { on := 0, ground := Ground.phase }, { on := 1, ground := Ground.phase }, { on := 2, ground := Ground.phase }, { on := 3, ground := Ground.phase }, { on := 4, ground := Ground.phase }, { on := 5, ground := Ground.phase }, { on := 6, ground := Ground.phase }], guard := none }) rfl (fun KK hK => ?_) AllReadyH.nil)
     go_simp
     refine hK.out _ _ (by exact m4) (fun hS6 => ?_)
     clear hK KK
     try simp only [Act.put, List.setIfInBounds_toArray, List.set_cons_zero, List.set_cons_succ]
     refine wpAnyH_done (by kernel_rfl) ?_ _
     exact ⟨rfl, h9⟩
 case iter =>
  intro R W hY hbk h0
  have hm2 : manyN r n = m := by rw [H.out.2.2.2.2.2.2.2.1]; unfold mK; rw [H.out.2.2.2.2.2.2.2.2.1, H.out.1.1]
  have hr := HR.out
  refine (kparts1_of (A := A) (n := n) (C := C) (r := r) (f := 5 - 1) (J := WrSt w q Lb B1 (B1 + 1) s.b seq A n C m r ls) (by omega) (by omega) (by have := H.out.2.2.2.2.2.2.2.2.2.2.2.2.2.1; omega) H.out.2.1 (fun k W h => ⟨h.p1.cell 0, h.p2.cell 0⟩) ?more ?last hY W hbk h0).mono ?_
  case more =>
   intro k W h h1 h2
   refine ⟨h, ?_, _, _, _, rfl, ?_⟩
   ·rw [← hm2]
    have := manyN_all (r := r) (n := n) (by omega)
    rcases Nat.lt_or_ge k (manyN r n) with h3 | h3
    ·exact h3
    ·have := Nat.mul_le_mul_right r h3
     omega
   ·have := (H.out.1.cuts (r := r) H.out.2.1 k h1).front r (by omega)
    exact this.below (by rw [← H.out.2.2.2.2.2.1]; exact h.below)
  case last =>
   intro k W h h1 h2 h3
   refine ⟨h, by rw [← hm2, manyN_end (by omega) h2 h3]; omega, _, _, _, rfl, ?_⟩
   have := H.out.1.cuts (r := r) H.out.2.1 k h1
   have e : partK r k ps = ps.drop (k * r) := by
    rw [partK_drop, List.take_of_length_le]
    rw [List.length_drop, H.out.1.1]; exact h2
   rw [e]
   exact this.below (by rw [← H.out.2.2.2.2.2.1]; exact h.below)
  rintro e W' ⟨hv, hb, hj⟩
  rw [hm2] at hj
  exact ⟨hv, hb, hj⟩
 case done =>
  intro W hst hdf
  obtain ⟨v, o1, o2⟩ := hst.o
  have htl : ls.take m = ls := List.take_of_length_le (by rw [HQ.out.2, ckL_length, ← H.out.2.2.2.2.2.2.2.1]; exact Nat.le_refl _)
  rw [htl] at o2
  have HO : Hid (WrSt w q Lb B1 (B1 + 1) s.b seq A n C m r ls m W ∧ RowAt (fun j => q ≤ j) W v ls ∧ W.heap[W4.heap.size]? = some (.deferred (some []))) := ⟨hst, o2, hdf⟩
  obtain ⟨av, cv, hv⟩ := o2.slice
  subst hv
  have c0 : W.cell? ⟨Lb, 0, none⟩ = some (.slice av ls.length cv) := o1.cell 0
  clear hst o1 o2 hdf htl
  go_wp2
  obtain ⟨hst, o2, hK⟩ := HO.out
  have hcm := calm_shut hK (.deferred none)
  refine ⟨by simp, .inl ⟨_, _, rfl, run_takeDeferred hK, ?_⟩⟩
  refine ⟨_, results_tmp rfl _ _ _, _, rfl, ?_, ?_⟩
  ·rw [← H.out.2.2.2.2.2.1, ← HQ.out.2]; exact hcm.row o2
  ·rw [← H.out.2.2.2.2.2.1]
   exact hst.below.trans (hcm.2.1.below (by have := hst.b0.lt; omega) (fun j e => by have := HQ.out.1; omega))
end
end Go.Proofs.YtcdnjeiamihhbabGreat
