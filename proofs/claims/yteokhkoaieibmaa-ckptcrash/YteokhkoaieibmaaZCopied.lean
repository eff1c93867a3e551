/- What one call of copied does. -/
import Derived.Test.YteokhkoaieibmaaZRead
import Derived.Deep.RegionHeld
import Derived.Deep.RegionHeld3
namespace Go.Proofs.Yteokhkoaieibmaa
open Go.RowKit Go.Shelf
set_option linter.unusedVariables false
set_option maxRecDepth 4000
attribute [local go_sem] Oper.semAt_some

/-- The blocks up to the first one of another size. -/
def cutW (S : Nat) (bs : List (List Int)) : List (List Int) := bs.takeWhile (fun D => D.length == S)
def wFit (S : Nat) (bs : List (List Int)) (k : Nat) : Nat := if (bs.getD k []).length = S then S else 0
theorem wFit_at {S : Nat} {bs : List (List Int)} {k : Nat} {D : List Int} (h : bs[k]? = some D) : wFit S bs k = if D.length = S then S else 0 := by
  simp [wFit, List.getD, h]
theorem cutW_take {S : Nat} : ∀ (bs : List (List Int)) (k : Nat), k ≤ bs.length → (∀ j, j < k → 0 < wFit S bs j) → (k = bs.length ∨ (k < bs.length ∧ wFit S bs k = 0)) → 0 < S → bs.take k = cutW S bs
  | [], k, hk, _, _, _ => by simp [cutW]
  | D :: bs, 0, hk, hp, he, hS => by
    rcases he with he | ⟨_, he⟩
    · simp at he
    · have : ¬ D.length = S := by
        intro e
        rw [wFit_at (D := D) rfl, if_pos e] at he
        omega
      simp [cutW, this]
  | D :: bs, k + 1, hk, hp, he, hS => by
    have h0 := hp 0 (by omega)
    rw [wFit_at (D := D) rfl] at h0
    have hD : D.length = S := by
      rcases Nat.lt_or_ge 0 S with h | h
      · by_cases e : D.length = S
        · exact e
        · rw [if_neg e] at h0; omega
      · omega
    have hsh : ∀ j, wFit S (D :: bs) (j + 1) = wFit S bs j := fun j => by simp [wFit]
    have ih := cutW_take bs k (by simpa using hk) (fun j hj => by rw [← hsh]; exact hp (j + 1) (by omega)) (by
      rcases he with he | ⟨he1, he2⟩
      · exact .inl (by simpa using he)
      · exact .inr ⟨by simpa using he1, by rw [← hsh]; exact he2⟩) hS
    simp only [List.take_succ_cons, ih, cutW, hD, List.takeWhile_cons]
    simp

structure CpSt (w : World) (q0 g r0 B0 B1 B2 : Nat) (a : Option Addr) (n c S : Nat) (d : Int) (bs : List (List Int)) (k : Nat) (W : World) : Prop where
  below : Below q0 w W
  b0 : Blk W B0 [.int .i64 S] 3
  b1 : Blk W B1 [.slice a n c] 28
  b2 : Blk W B2 [.func (.func 87) #[] #[.pointer (some ⟨B0, 0, none⟩)]] 134
  r : Blk W r0 [.slice none 0 0, .int .i64 0] 76
  o : ∃ v, Blk W g [v, .int .i64 d] 76 ∧ RowAt (fun j => q0 ≤ j) W v (bs.take k)
  ne : g ≠ r0 ∧ q0 ≤ g ∧ q0 ≤ r0

section
variable {w : World} {q0 g r0 B0 B1 B2 : Nat} {a : Option Addr} {n c S : Nat} {d : Int} {bs : List (List Int)} {k : Nat} {W W' : World}
theorem CpSt.under (h : CpSt w q0 g r0 B0 B1 B2 a n c S d bs k W) (hb : Below W.heap.size W W') : CpSt w q0 g r0 B0 B1 B2 a n c S d bs k W' := by
  obtain ⟨v, o1, o2⟩ := h.o
  have ho := below_out Non hb
  exact ⟨h.below.trans (hb.mono (by have := o1.lt; have := h.ne.2.1; omega)), ho.blk h.b0 id, ho.blk h.b1 id, ho.blk h.b2 id, ho.blk h.r id, ⟨v, ho.blk o1 id, o2.out ho (fun _ _ => id) (fun _ _ _ _ => id)⟩, h.ne⟩
theorem CpSt.calm {l : Nat} (h : CpSt w q0 g r0 B0 B1 B2 a n c S d bs k W) (hc : Calm l W W') (hl : q0 ≤ l) : CpSt w q0 g r0 B0 B1 B2 a n c S d bs k W' := by
  obtain ⟨v, o1, o2⟩ := h.o
  refine ⟨h.below.trans (hc.2.1.below (by have := o1.lt; have := h.ne.2.1; omega) (fun j e => by omega)), hc.blk h.b0, hc.blk h.b1, hc.blk h.b2, hc.blk h.r, ⟨v, hc.blk o1, hc.row o2⟩, h.ne⟩
theorem out_row {O : Nat → Prop} {V : World} {g : Nat} {L : List Value} {t : TypeId} (hg : Blk V g L t) (h1 : t ≠ 39) (h2 : t ≠ 5) (i : Nat) (u : Value) {v : Value} {bs : List (List Int)} (hr : RowAt O V v bs) : RowAt O (V.setCell ⟨g, i, none⟩ u) v bs := by
  have hr' := hr
  obtain ⟨vs, r1, r2, r3, r4⟩ := hr
  refine hr'.out (out_cell V g i u) (fun r e e' => ?_) (fun c cur _ hc e => ?_)
  · subst e'; exact blk_not_row hg h1 r1 e
  · subst e
    have : some (Obj.cells L.toArray t (0, 0)) = some (Obj.cells cur 5 (0, 0)) := (show V.heap[c]? = _ from hg).symm.trans hc
    simp at this
    exact h2 this.2
theorem book_app {R : Loop} {l : Nat} {W w' : World} {v : Value} {bs : List (List Int)} {O : Nat → Prop} {o : Obj} (h : Book R l W) (hr : RowAt O W v bs) (hg : (W.alloc o).grownBy w' v.ownBlock) : Book R l w' := by
  obtain ⟨vs, r1, _⟩ := hr
  refine (h.below ((Below.refl _ _).alloc (Nat.le_refl _) o)).out (grown_out hg) (fun j e => ?_)
  obtain ⟨cur, hc⟩ := own_at_block (r1.alloc o) e
  exact ⟨_, _, _, hc⟩
theorem book_cell {R : Loop} {l : Nat} {W : World} {g : Nat} {L : List Value} {t : TypeId} (h : Book R l W) (hg : Blk W g L t) (i : Nat) (u : Value) : Book R l (W.setCell ⟨g, i, none⟩ u) :=
  h.out (out_cell W g i u) (fun j e => by subst e; exact ⟨_, _, _, hg⟩)
theorem CpSt.app {R : Loop} {l : Nat} (h : CpSt w q0 g r0 B0 B1 B2 a n c S d bs k W) (hbk : Book R l W) {D : List Int} (hD : bs[k]? = some D) {v v' : Value} {o : Obj} {w' : World} (hr : RowAt (fun j => q0 ≤ j) W v (bs.take k)) (hv : Blk W g [v, .int .i64 d] 76)
    (hg : (W.alloc o).grownBy w' v.ownBlock) (h2 : RowAt (fun j => q0 ≤ j) w' v' (bs.take k ++ [D])) : CpSt w q0 g r0 B0 B1 B2 a n c S d bs (k + 1) (w'.setCell ⟨g, 0, none⟩ v') ∧ Book R l (w'.setCell ⟨g, 0, none⟩ v') := by
  obtain ⟨vs, r1, r2, _⟩ := id hr
  have g1 : Blk w' g [v, .int .i64 d] 76 := (hv.alloc o).grown (by decide) (r1.alloc o) hg
  have k0 : Blk w' B0 _ _ := (h.b0.alloc o).grown (by decide) (r1.alloc o) hg
  have k1 : Blk w' B1 _ _ := (h.b1.alloc o).grown (by decide) (r1.alloc o) hg
  have k2 : Blk w' B2 _ _ := (h.b2.alloc o).grown (by decide) (r1.alloc o) hg
  have k3 : Blk w' r0 _ _ := (h.r.alloc o).grown (by decide) (r1.alloc o) hg
  have lt := hv.lt
  have ne := h.ne
  refine ⟨⟨?_, k0.set_other (blk_ne k0 g1 (by decide)) _, k1.set_other (blk_ne k1 g1 (by decide)) _, k2.set_other (blk_ne k2 g1 (by decide)) _, k3.set_other (by intro e; exact ne.1 e.symm) _, ⟨v', g1.set 0 v', ?_⟩, h.ne⟩, book_cell (book_app hbk hr hg) g1 0 v'⟩
  · exact (((h.below.alloc (by omega) o).grown hg (by simp; omega) (fun j hj => r2 j hj)).setCell (p := ⟨g, 0, none⟩) ne.2.1 v')
  · rw [take_snoc hD]
    exact out_row g1 (by decide) (by decide) 0 v' h2
end

theorem Try.info_zone : (Try.prog.info? 76).map (·.size) = some 2 := by kernel_rfl
/-- The first rows of copied: what lies ahead of the loop. -/
def Copied (w : World) (bs : List (List Int)) (S : Nat) (d : Int) (e : Ending) (w' : World) : Prop :=
  ∃ v, e = .returned (.agg #[v, .int .i64 d]) ∧ RowAt (fun j => w.heap.size ≤ j) w' v (cutW S bs) ∧ Below w.heap.size w w'

set_option maxHeartbeats 2000000 in
theorem copied_of (a : Option Addr) (n c S : Nat) (d : Int) (bs : List (List Int)) (w : World) (hb : BsIn w a n bs) (hS : 0 < S) (hS' : S ≤ 100000) :
    Calls Try.prog 57 #[.agg #[.slice a n c, .int .i64 d], .int .i64 S] w (Copied w bs S d) := by
  obtain ⟨q, hq⟩ : ∃ q, q = w.heap.size := ⟨_, rfl⟩
  refine (callsIn_wide (n := 5)).1 (callsIn_of_wp_marks Try.func57 rfl trivial (wpIn_wide.2 ?_))
  simp only [Try.ntmps57, List.size_toArray, List.length_cons, List.length_nil, Nat.reduceAdd, Nat.reduceSub, Array.replicate_succ, Array.replicate_zero, List.push_toArray, List.append_toArray, List.nil_append, List.cons_append]
  have HB : Hid (BsIn w a n bs ∧ 0 < S ∧ S ≤ 100000 ∧ q = w.heap.size) := ⟨hb, hS, hS', hq⟩
  clear hb hS hS'
  go_upto_region 2 with fail
  rw [← hq]
  have HW : Hid (Blk (((w.alloc (.cells #[.slice a n c, .int .i64 d] 76)).alloc (.cells #[.slice none 0 0, .int .i64 0] 76)).alloc (.cells #[.slice none 0 0, .int .i64 d] 76)) q [.slice a n c, .int .i64 d] 76 ∧
      Blk (((w.alloc (.cells #[.slice a n c, .int .i64 d] 76)).alloc (.cells #[.slice none 0 0, .int .i64 0] 76)).alloc (.cells #[.slice none 0 0, .int .i64 d] 76)) (q + 1) [.slice none 0 0, .int .i64 0] 76 ∧
      Blk (((w.alloc (.cells #[.slice a n c, .int .i64 d] 76)).alloc (.cells #[.slice none 0 0, .int .i64 0] 76)).alloc (.cells #[.slice none 0 0, .int .i64 d] 76)) (q + 1 + 1) [.slice none 0 0, .int .i64 d] 76 ∧
      Below q w (((w.alloc (.cells #[.slice a n c, .int .i64 d] 76)).alloc (.cells #[.slice none 0 0, .int .i64 0] 76)).alloc (.cells #[.slice none 0 0, .int .i64 d] 76)) ∧
      (((w.alloc (.cells #[.slice a n c, .int .i64 d] 76)).alloc (.cells #[.slice none 0 0, .int .i64 0] 76)).alloc (.cells #[.slice none 0 0, .int .i64 d] 76)).heap.size = q + 3) :=
    ⟨((Blk.new' hq.symm rfl).alloc _).alloc _, (Blk.new' (by simp [hq]) rfl).alloc _, Blk.new' (by simp [hq]) rfl, (((Below.refl q w).alloc (by omega) _).alloc (by simp [hq]) _).alloc (by simp [hq]; omega) _, by simp [hq]⟩
  generalize hW : World.alloc _ _ = W1 at HW ⊢
  have c0 : W1.cell? ⟨q, 0, none⟩ = some (.slice a n c) := HW.out.1.cell 0
  have hsz : W1.heap.size = q + 3 := HW.out.2.2.2.2
  clear hW hq
  refine wp_region_noPanic ?_
  go_region_law (first
    | (go_simp; go_at_call 78; refine (whole_of S _).mono ?_; rintro e w2 ⟨rfl, rfl⟩)
    | (go_simp; go_at_call 77; refine (cut_of a n c 87 _ _).mono ?_; rintro e w2 ⟨rfl, rfl⟩))
  all_goals
    have HV : Hid (CpSt w q (q + 1 + 1) (q + 1) (q + 3) (q + 3 + 1) (q + 3 + 1 + 1) a n c S d bs 0 (((W1.alloc (.cells #[.int .i64 S] 3)).alloc (.cells #[.slice a n c] 28)).alloc (.cells #[.func (.func 87) #[] #[.pointer (some ⟨q + 3, 0, none⟩)]] 134)).drew) := by
      obtain ⟨h1, h2, h3, h4, h5⟩ := HW.out
      refine ⟨(((h4.alloc (by omega) _).alloc (by simp; omega) _).alloc (by simp; omega) _).drew, ((Blk.new' hsz rfl).alloc _).alloc _, (Blk.new' (by simp [hsz]) rfl).alloc _, Blk.new' (by simp [hsz]) rfl, ((h2.alloc _).alloc _).alloc _, ⟨_, ((h3.alloc _).alloc _).alloc _, RowAt.nil _ _⟩, by omega⟩
    have hsz2 : ((((W1.alloc (.cells #[.int .i64 S] 3)).alloc (.cells #[.slice a n c] 28)).alloc (.cells #[.func (.func 87) #[] #[.pointer (some ⟨q + 3, 0, none⟩)]] 134)).drew).heap.size = q + 6 := by simp [hsz]
    generalize hW2 : World.drew _ = W2 at HV hsz2 ⊢
    clear hW2 c0 hsz HW
    refine NoPanic.normal ?_
    go_wp2
    refine wpIn_wide.1 (wpIn_range (n := 5) (gf := 85) (lb := #[.pointer (some ⟨q + 3 + 1, 0, none⟩), .pointer (some ⟨q + 3 + 1 + 1, 0, none⟩)]) rfl (enters_of Try.func85 (by kernel_rfl) rfl)
      (CpSt w q (q + 1 + 1) (q + 1) (q + 3) (q + 3 + 1) (q + 3 + 1 + 1) a n c S d bs)
      (fun k x W => CpSt w q (q + 1 + 1) (q + 1) (q + 3) (q + 3 + 1) (q + 3 + 1 + 1) a n c S d bs k W ∧ ∃ D, bs[k]? = some D ∧ BkAt (fun j => q ≤ j) W x D ∧ ∃ gx m, x = .slice (some ⟨gx, 0, none⟩) m m)
      (fun W => ∃ k, CpSt w q (q + 1 + 1) (q + 1) (q + 3) (q + 3 + 1) (q + 3 + 1 + 1) a n c S d bs k W ∧ bs.take k = cutW S bs)
      (fun k W W' h hc => h.calm hc (by omega)) (fun k x W W' h hc => ⟨h.1.calm hc (by omega), by obtain ⟨D, h1, h2, h3⟩ := h.2; exact ⟨D, h1, hc.bk h2, h3⟩⟩) (fun W W' h hc => by obtain ⟨k, h1, h2⟩ := h; exact ⟨k, h1.calm hc (by omega), h2⟩)
      (fun o o' => HV.out.under (((Below.refl _ _).alloc (Nat.le_refl _) _).alloc (by simp) _))
      (fun x => { tmps := #[.agg #[.slice a n c, .int .i64 d], .int .i64 S, .pointer (some ⟨q, 0, none⟩), undef, .pointer (some ⟨q + 1, 0, none⟩), .pointer (some ⟨q + 1 + 1, 0, none⟩), x, .pointer (some ⟨q, 1, none⟩), .int .i64 d, .agg #[.slice none 0 0, .int .i64 d], .pointer (some ⟨q, 0, none⟩), .slice a n c, .int .i64 S,
          .func (.func 87) #[] #[.pointer (some ⟨q + 3, 0, none⟩)], .func (.func 85) #[] #[.pointer (some ⟨q + 3 + 1, 0, none⟩), .pointer (some ⟨q + 3 + 1 + 1, 0, none⟩)], x, undef, undef, undef, undef, undef, undef, undef], defers := [] }) ?assign ?body ?iter ?done)
    case assign =>
      rintro l k x W K ⟨_, D, _, _, gx, m, rfl⟩ hK
      gi_wp2
      exact hK
    case body =>
      rintro l R k x W hbk ⟨hst, D, hD, hx, gx, m, rfl⟩
      obtain ⟨v, o1, o2⟩ := hst.o
      have hl : (bs.take k).length = k := by have := (List.getElem?_eq_some_iff.1 hD).1; simp; omega
      have hk : k + 1 ≤ 100000 := by have := (List.getElem?_eq_some_iff.1 hD).1; have := HB.out.1.1; have := HB.out.1.2.1; omega
      obtain ⟨av, cv, rfl⟩ := o2.slice
      rw [hl] at o1 o2
      obtain ⟨a', c', w', hrun, h2, h3, h4⟩ := app_row o2 hx rfl (by rw [hl]; exact hk) (fun j hj => by have := o1.lt; omega)
      rw [hl] at hrun h2
      have vs : ∃ vs, W.ownsRow 0 39 1 (.slice av k cv) (bs.take k).length vs := by obtain ⟨vs, h, _⟩ := o2; exact ⟨vs, h⟩
      obtain ⟨vs, hvs⟩ := vs
      have g1 : Blk w' (q + 1 + 1) [.slice av k cv, .int .i64 d] 76 := (o1.alloc _).grown (by decide) (hvs.alloc _) h3
      have cc : W.cell? ⟨q + 1 + 1, 0, none⟩ = some (.slice av k cv) := o1.cell 0
      have cw : w'.cell? ⟨q + 1 + 1, 0, none⟩ = some (.slice av k cv) := g1.cell 0
      have fw := g1.frozen 0
      have HS : Hid (CpSt w q (q + 1 + 1) (q + 1) (q + 3) (q + 3 + 1) (q + 3 + 1 + 1) a n c S d bs (k + 1) (w'.setCell ⟨q + 1 + 1, 0, none⟩ (.slice a' (k + 1) c')) ∧ Book R W2.heap.size (w'.setCell ⟨q + 1 + 1, 0, none⟩ (.slice a' (k + 1) c'))) := hst.app hbk hD o2 o1 h3 h2
      clear o1 o2 hx h2 h3 h4 hvs g1 hst
      have HR : Hid ((Builtin.append_ #[28, 28] 28 #[.slice av k cv, .slice (some ⟨W.heap.size, 0, none⟩) 1 1]).run Try.prog (W.alloc (.cells #[.slice (some ⟨gx, 0, none⟩) m m] 39)) = .ok (.slice a' (k + 1) c') w') := hrun
      clear hrun
      gi_wp2_with (gi_at_builtin; refine wpListIn_append_run rfl (.tmp 17) (.tmp 19) 28 28 rfl _ _ rfl rfl _ _ HR.out ?_)
      exact ⟨by rw [← hsz2]; exact HS.out.2, HS.out.1⟩
    case iter =>
      intro R W hY hbk h0
      refine (cut1_of (n := 5 - 1) (J := CpSt w q (q + 1 + 1) (q + 1) (q + 3) (q + 3 + 1) (q + 3 + 1 + 1) a n c S d bs) (JF := CpSt w q (q + 1 + 1) (q + 1) (q + 3) (q + 3 + 1) (q + 3 + 1 + 1) a n c S d bs) (gf := 87) (lb := #[.pointer (some ⟨q + 3, 0, none⟩)]) (fit := wFit S bs) (a := a) (nb := n) (c := c) (bs := bs)
        ⟨HB.out.1.1, HB.out.1.2.1, fun k W h => ⟨h.b1.cell 0, h.b2.cell 0⟩, ?rd, ?fits, ?le, ?torn⟩ (enters_of Try.func87 (by kernel_rfl) rfl) hY W hbk h0).mono ?_
      case rd =>
        intro k W D h hD
        have hb := HB.out.1.below (by rw [← HB.out.2.2.2]; exact h.below)
        obtain ⟨b, off, ha, hc⟩ := hb.2.2.resolve_left (by have := (List.getElem?_eq_some_iff.1 hD).1; have := HB.out.1.1; omega)
        obtain ⟨v, h1, A, L, C, rfl, h2, h3, h4, h5⟩ := hc k D hD
        exact ⟨b, off, A, L, C, ha, h1, h2, h4, h5⟩
      case fits =>
        intro k W D A L C h hD hin hb
        refine (whole1_of S (q + 3) A L C W (h.b0.cell 0)).mono ?_
        rintro e w' ⟨rfl, rfl⟩
        refine ⟨?_, h, hb, hin⟩
        rw [wFit_at hD, hin.1]
        by_cases e : L = S
        · rw [if_pos (by exact_mod_cast e), if_pos e]
        · rw [if_neg (by exact_mod_cast e), if_neg e]; rfl
      case le =>
        intro k D hD
        rw [wFit_at hD]
        split <;> omega
      case torn =>
        intro k W D x W' h hD hp hb hx hg
        have e : wFit S bs k = D.length := by
          rw [wFit_at hD] at hp ⊢
          split at hp
          · rename_i h; rw [if_pos h, h]
          · omega
        rw [e, tornL_all] at hx
        obtain ⟨gx, rfl⟩ := hg
        obtain ⟨v, o1, _⟩ := h.o
        exact ⟨h.under hb, D, hD, hx.mono (fun c hc _ => by have := o1.lt; omega), gx, _, rfl⟩
      rintro e W' ⟨hv, hb, k, hk, hp, he⟩
      refine ⟨hv, hb, k, ?_, ?_⟩
      · rcases he with ⟨_, h⟩ | ⟨_, _, h⟩ <;> exact h
      · refine cutW_take bs k (by rw [HB.out.1.1]; exact hk) hp ?_ HB.out.2.1
        rw [HB.out.1.1]
        rcases he with ⟨h, _⟩ | ⟨h1, h2, _⟩
        · exact .inl h
        · exact .inr ⟨h1, h2⟩
    case done =>
      rintro W ⟨k, hst, he⟩ hK
      obtain ⟨v, o1, o2⟩ := hst.o
      rw [he] at o2
      have HO : Hid (CpSt w q (q + 1 + 1) (q + 1) (q + 3) (q + 3 + 1) (q + 3 + 1 + 1) a n c S d bs k W ∧ Blk W (q + 1 + 1) [v, .int .i64 d] 76 ∧ RowAt (fun j => q ≤ j) W v (cutW S bs) ∧ W.heap[W2.heap.size]? = some (.deferred (some []))) := ⟨hst, o1, o2, hK⟩
      obtain ⟨av, cv, hv⟩ := o2.slice
      subst hv
      have c0 : W.cell? ⟨q + 1 + 1, 0, none⟩ = some (.slice av (cutW S bs).length cv) := o1.cell 0
      have c1 : W.cell? ⟨q + 1 + 1, 1, none⟩ = some (.int .i64 d) := o1.cell 1
      have e0 : W.cell? ⟨q + 1, 0, none⟩ = some (.slice none 0 0) := hst.r.cell 0
      have e1 : W.cell? ⟨q + 1, 1, none⟩ = some (.int .i64 0) := hst.r.cell 1
      have f0 := hst.r.frozen 0
      have f1 := hst.r.frozen 1
      clear hst o1 o2 hK
      go_wp2
      obtain ⟨hst, o1, o2, hK⟩ := HO.out
      have hne := hst.ne
      have r2 := ((hst.r.set 0 (.slice av (cutW S bs).length cv)).set 1 (.int .i64 d))
      have hK' : ((W.setCell ⟨q + 1, 0, none⟩ (.slice av (cutW S bs).length cv)).setCell ⟨q + 1, 1, none⟩ (.int .i64 d)).heap[W2.heap.size]? = some (.deferred (some [])) := by
        rw [Below.heap_setCell _ _ _ _ (by show W2.heap.size ≠ q + 1; omega), Below.heap_setCell _ _ _ _ (by show W2.heap.size ≠ q + 1; omega)]; exact hK
      have hcm := calm_shut hK' (.deferred none)
      have hrow := hcm.row (out_row (hst.r.set 0 (.slice av (cutW S bs).length cv)) (by decide) (by decide) 1 (.int .i64 d) (out_row hst.r (by decide) (by decide) 0 (.slice av (cutW S bs).length cv) o2))
      have hbel : Below q w ((W.setCell ⟨q + 1, 0, none⟩ (.slice av (cutW S bs).length cv)).setCell ⟨q + 1, 1, none⟩ (.int .i64 d)) := (hst.below.setCell (p := ⟨q + 1, 0, none⟩) (by show q ≤ q + 1; omega) _).setCell (p := ⟨q + 1, 1, none⟩) (by show q ≤ q + 1; omega) _
      refine ⟨by simp, .inl ⟨_, _, rfl, run_takeDeferred hK', ?_⟩⟩
      refine ⟨_, results_cell_one (p := 4) (ty := 76) rfl _ _ (q + 1) _ _ _ rfl (hcm.blk r2) Try.underlying76 rfl Try.info_zone, _, rfl, ?_, ?_⟩
      · rw [← HB.out.2.2.2]; exact hrow
      · rw [← HB.out.2.2.2]
        exact hbel.trans (hcm.2.1.below (by have := hcm.2.2; have := r2.lt; omega) (fun j e => by omega))
end Go.Proofs.Yteokhkoaieibmaa
