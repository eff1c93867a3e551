/- Rows of requests that can be read; what one call of Same and SameAll does. -/
import Derived.Test.YthmhphjblglcoaaPiD
import Derived.Deep.RegionLaw
namespace Go.Proofs.Ythmhphjblglcoaa
open Go.RowKit
set_option linter.unusedVariables false
set_option maxRecDepth 4000
/-- Requests whose cells lie one behind the other. -/
def RsIn (w : World) (a : Option Addr) (n : Nat) (rs : List Pq) : Prop :=
  rs.length = n ∧ (n = 0 ∨ ∃ b off, a = some ⟨b, off, none⟩ ∧ ∀ (i : Nat) (p : Pq), rs[i]? = some p → ∃ A k C, p.1.Fits ∧ DIn w A k C p.2 ∧ ∀ (j : Nat) (v : Value), (rqL p.1 (.slice A k C))[j]? = some v → w.cell? ⟨b, off + i * 6 + j, none⟩ = some v)
theorem RsIn.below {w w' : World} {a : Option Addr} {n : Nat} {rs : List Pq} (h : RsIn w a n rs) (hb : Below w.heap.size w w') : RsIn w' a n rs := by
  obtain ⟨h1, h2⟩ := h
  refine ⟨h1, ?_⟩
  rcases h2 with h2 | ⟨b, off, ha, hc⟩
  · exact .inl h2
  · refine .inr ⟨b, off, ha, fun i p hp => ?_⟩
    obtain ⟨A, k, C, f, d, c⟩ := hc i p hp
    exact ⟨A, k, C, f, d.below hb, fun j v hj => by rw [hb.cell (old_block (c j v hj))]; exact c j v hj⟩
theorem RsIn.at {w : World} {a : Option Addr} {n i : Nat} {rs : List Pq} (h : RsIn w a n rs) (hi : i < n) : ∃ b off p A k C, a = some ⟨b, off, none⟩ ∧ rs[i]? = some p ∧ p.1.Fits ∧ DIn w A k C p.2 ∧ ∀ (j : Nat) (v : Value), (rqL p.1 (.slice A k C))[j]? = some v → w.cell? ⟨b, off + i * 6 + j, none⟩ = some v := by
  obtain ⟨h1, h2⟩ := h
  obtain ⟨b, off, ha, hc⟩ := h2.resolve_left (by omega)
  have hp : rs[i]? = some (rs[i]'(by omega)) := by simp
  obtain ⟨A, k, C, f, d, c⟩ := hc i _ hp
  exact ⟨b, off, _, A, k, C, ha, hp, f, d, c⟩
/-- A row of the call's own is a list that can be read. -/
theorem own_rsin {X : Nat → Prop} {w : World} {A : Option Addr} {C : Nat} {l : List Pq} {vs : List Value} (ho : w.ownsRow 0 34 6 (.slice A l.length C) l.length (rqC l vs)) (hd : QsD X w l vs) : RsIn w A l.length l := by
  refine ⟨rfl, ?_⟩
  rcases ho.2 with ⟨hv, h0⟩ | ⟨g, cap, cur, hv, r⟩
  · exact .inl h0
  · simp only [Value.slice.injEq] at hv
    obtain ⟨rfl, _, _⟩ := hv
    refine .inr ⟨g, 0, rfl, fun i p hp => ?_⟩
    have hi := (List.getElem?_eq_some_iff.1 hp).1
    obtain ⟨v, hv⟩ : ∃ v, vs[i]? = some v := ⟨vs[i]'(by rw [hd.1]; exact hi), by simp⟩
    have hq := hd.2 i p v hp hv
    obtain ⟨A', C', rfl, h2, h3⟩ := hq.form
    refine ⟨A', p.2.length, C', hq.2.2, ⟨h2, ?_, h3⟩, fun j u hu => ?_⟩
    · obtain ⟨h4, _⟩ := hq.1
      rcases h4.2 with ⟨hv, h0⟩ | ⟨g', cap', cur', hv, hB, hh, hnc, _⟩
      · rw [h0]; exact Nat.zero_le _
      · simp only [Value.slice.injEq] at hv; rw [hv.2.2]; exact hnc
    · have hj : j < 6 := by have := (List.getElem?_eq_some_iff.1 hu).1; simpa [rqL] using this
      have := ho.cells (g := g) rfl (i * 6 + j) u (by rw [rqC_get l vs i p _ j hp hv hj]; exact hu)
      rw [Addr.add_mid] at this
      rw [show 0 + i * 6 + j = 0 + (i * 6 + j) by omega]
      exact this
set_option maxHeartbeats 1000000 in
theorem same_of (r : Rq) (A : Option Addr) (k C : Nat) (A2 : Option Addr) (k2 C2 : Nat) (D : List Int) (w : World) (hx : BIn w A k D) (hy : BIn w A2 k2 D) :
    Calls Try.prog 17 #[.agg (rqL r (.slice A k C)).toArray, .agg (rqL r (.slice A2 k2 C2)).toArray] w fun e w' => e = .returned (.bool true) ∧ Below w.heap.size w w' := by
  obtain ⟨q, hq⟩ : ∃ q, q = w.heap.size := ⟨_, rfl⟩
  have b0 : Blk ((w.alloc (.cells (rqL r (.slice A k C)).toArray 34)).alloc (.cells (rqL r (.slice A2 k2 C2)).toArray 34)) q (rqL r (.slice A k C)) 34 := (Blk.new' hq.symm rfl).alloc _
  have b1 : Blk ((w.alloc (.cells (rqL r (.slice A k C)).toArray 34)).alloc (.cells (rqL r (.slice A2 k2 C2)).toArray 34)) (q + 1) (rqL r (.slice A2 k2 C2)) 34 := Blk.new' (by simp [hq]) rfl
  have bw : Below q w ((w.alloc (.cells (rqL r (.slice A k C)).toArray 34)).alloc (.cells (rqL r (.slice A2 k2 C2)).toArray 34)) := ((Below.refl _ _).alloc (by omega) _).alloc (by simp; omega) _
  have hx' := (hx.alloc (.cells (rqL r (.slice A k C)).toArray 34)).alloc (.cells (rqL r (.slice A2 k2 C2)).toArray 34)
  have hy' := (hy.alloc (.cells (rqL r (.slice A k C)).toArray 34)).alloc (.cells (rqL r (.slice A2 k2 C2)).toArray 34)
  rw [← hq]
  go_enter Try.func17, Try.ntmps17
  go_upto_region 1 with fail
  rw [← hq]
  generalize hW : World.alloc (World.alloc w _) _ = W at b0 b1 bw hx' hy' ⊢
  have h1 := str_of W A k C D hx'
  have h2 := str_of W A2 k2 C2 D hy'
  have c0 : W.cell? ⟨q, 0, none⟩ = some (.int .u16 r.fl) := b0.cell 0
  have c1 : W.cell? ⟨q, 1, none⟩ = some (.int .u16 r.kd) := b0.cell 1
  have c2 : W.cell? ⟨q, 2, none⟩ = some (.int .u64 r.ck) := b0.cell 2
  have c3 : W.cell? ⟨q, 3, none⟩ = some (.int .u64 r.ofs) := b0.cell 3
  have c4 : W.cell? ⟨q, 4, none⟩ = some (.int .u32 r.ln) := b0.cell 4
  have c5 : W.cell? ⟨q, 5, none⟩ = some (.slice A k C) := b0.cell 5
  have d0 : W.cell? ⟨q + 1, 0, none⟩ = some (.int .u16 r.fl) := b1.cell 0
  have d1 : W.cell? ⟨q + 1, 1, none⟩ = some (.int .u16 r.kd) := b1.cell 1
  have d2 : W.cell? ⟨q + 1, 2, none⟩ = some (.int .u64 r.ck) := b1.cell 2
  have d3 : W.cell? ⟨q + 1, 3, none⟩ = some (.int .u64 r.ofs) := b1.cell 3
  have d4 : W.cell? ⟨q + 1, 4, none⟩ = some (.int .u32 r.ln) := b1.cell 4
  have d5 : W.cell? ⟨q + 1, 5, none⟩ = some (.slice A2 k2 C2) := b1.cell 5
  have HB : Hid (Below q w W) := bw
  obtain ⟨S, hS⟩ : ∃ S, S = strOfNums D := ⟨_, rfl⟩
  simp only [← hS] at h1 h2
  clear hW b0 b1 bw hx' hy' hx hy hq hS
  go_wp2
  go_ret
  exact ⟨rfl, HB.out⟩
set_option maxHeartbeats 1000000 in
theorem sameAll_of (a : Option Addr) (c : Nat) (b : Option Addr) (d n : Nat) (l : List Pq) (W : World) (hx : RsIn W a n l) (hy : RsIn W b n l) (hn : n ≤ 1000) :
    Calls Try.prog 22 #[.slice a n c, .slice b n d] W fun e w' => e = .returned (.bool true) ∧ Below W.heap.size W w' := by
  have H : Hid (RsIn W a n l ∧ RsIn W b n l) := ⟨hx, hy⟩
  clear hx hy
  go_enter Try.func22, Try.ntmps22
  go_wp2
  go_loopw [5] (fun i wr => ∃ (k : Nat), k ≤ n ∧ i = .int .i64 k ∧ Below W.heap.size W wr) (fun i _ => n - (intOf i).toNat)
  case atStart => exact ⟨0, Nat.zero_le _, rfl, Below.refl _ _⟩
  case round =>
    obtain ⟨k, hk, rfl, hb⟩ := hrel
    by_cases hlt : k < n
    · have hlt' : (k : Int) < n := by omega
      have hwk : IntKind.i64.wrap ((k : Int) + 1) = (k : Int) + 1 := by rw [IntKind.wrap_i64]; omega
      obtain ⟨b1, o1, p, A1, L1, C1, rfl, hp, f1, d1, g1⟩ := (H.out.1.below hb).at hlt
      obtain ⟨b2, o2, p2, A2, L2, C2, rfl, hp2, f2, d2, g2⟩ := (H.out.2.below hb).at hlt
      obtain rfl : p = p2 := by rw [hp] at hp2; exact Option.some.inj hp2
      have x0 : wr.cell? ⟨b1, o1 + k * 6, none⟩ = some (.int .u16 p.1.fl) := g1 0 _ rfl
      have x1 : wr.cell? ⟨b1, o1 + k * 6 + 1, none⟩ = some (.int .u16 p.1.kd) := g1 1 _ rfl
      have x2 : wr.cell? ⟨b1, o1 + k * 6 + 2, none⟩ = some (.int .u64 p.1.ck) := g1 2 _ rfl
      have x3 : wr.cell? ⟨b1, o1 + k * 6 + 3, none⟩ = some (.int .u64 p.1.ofs) := g1 3 _ rfl
      have x4 : wr.cell? ⟨b1, o1 + k * 6 + 4, none⟩ = some (.int .u32 p.1.ln) := g1 4 _ rfl
      have x5 : wr.cell? ⟨b1, o1 + k * 6 + 5, none⟩ = some (.slice A1 L1 C1) := g1 5 _ rfl
      have y0 : wr.cell? ⟨b2, o2 + k * 6, none⟩ = some (.int .u16 p.1.fl) := g2 0 _ rfl
      have y1 : wr.cell? ⟨b2, o2 + k * 6 + 1, none⟩ = some (.int .u16 p.1.kd) := g2 1 _ rfl
      have y2 : wr.cell? ⟨b2, o2 + k * 6 + 2, none⟩ = some (.int .u64 p.1.ck) := g2 2 _ rfl
      have y3 : wr.cell? ⟨b2, o2 + k * 6 + 3, none⟩ = some (.int .u64 p.1.ofs) := g2 3 _ rfl
      have y4 : wr.cell? ⟨b2, o2 + k * 6 + 4, none⟩ = some (.int .u32 p.1.ln) := g2 4 _ rfl
      have y5 : wr.cell? ⟨b2, o2 + k * 6 + 5, none⟩ = some (.slice A2 L2 C2) := g2 5 _ rfl
      have h12 : wr.drew.cell? ⟨b1, o1 + k * 6, none⟩ = some (.int .u16 p.1.fl) ∧ wr.drew.cell? ⟨b1, o1 + k * 6 + 1, none⟩ = some (.int .u16 p.1.kd) ∧ wr.drew.cell? ⟨b1, o1 + k * 6 + 2, none⟩ = some (.int .u64 p.1.ck) ∧ wr.drew.cell? ⟨b1, o1 + k * 6 + 3, none⟩ = some (.int .u64 p.1.ofs) ∧ wr.drew.cell? ⟨b1, o1 + k * 6 + 4, none⟩ = some (.int .u32 p.1.ln) ∧ wr.drew.cell? ⟨b1, o1 + k * 6 + 5, none⟩ = some (.slice A1 L1 C1) ∧ wr.drew.cell? ⟨b2, o2 + k * 6, none⟩ = some (.int .u16 p.1.fl) ∧ wr.drew.cell? ⟨b2, o2 + k * 6 + 1, none⟩ = some (.int .u16 p.1.kd) ∧ wr.drew.cell? ⟨b2, o2 + k * 6 + 2, none⟩ = some (.int .u64 p.1.ck) ∧ wr.drew.cell? ⟨b2, o2 + k * 6 + 3, none⟩ = some (.int .u64 p.1.ofs) ∧ wr.drew.cell? ⟨b2, o2 + k * 6 + 4, none⟩ = some (.int .u32 p.1.ln) ∧ wr.drew.cell? ⟨b2, o2 + k * 6 + 5, none⟩ = some (.slice A2 L2 C2) := ⟨x0, x1, x2, x3, x4, x5, y0, y1, y2, y3, y4, y5⟩
      have HS : Hid (Calls Try.prog 17 #[.agg #[.int .u16 p.1.fl, .int .u16 p.1.kd, .int .u64 p.1.ck, .int .u64 p.1.ofs, .int .u32 p.1.ln, .slice A1 L1 C1], .agg #[.int .u16 p.1.fl, .int .u16 p.1.kd, .int .u64 p.1.ck, .int .u64 p.1.ofs, .int .u32 p.1.ln, .slice A2 L2 C2]] wr.drew fun e w' => e = .returned (.bool true) ∧ Below W.heap.size W w' ∧ w'.cell? ⟨b1, o1 + k * 6, none⟩ = some (.int .u16 p.1.fl) ∧ w'.cell? ⟨b1, o1 + k * 6 + 1, none⟩ = some (.int .u16 p.1.kd) ∧ w'.cell? ⟨b1, o1 + k * 6 + 2, none⟩ = some (.int .u64 p.1.ck) ∧ w'.cell? ⟨b1, o1 + k * 6 + 3, none⟩ = some (.int .u64 p.1.ofs) ∧ w'.cell? ⟨b1, o1 + k * 6 + 4, none⟩ = some (.int .u32 p.1.ln) ∧ w'.cell? ⟨b1, o1 + k * 6 + 5, none⟩ = some (.slice A1 L1 C1) ∧ w'.cell? ⟨b2, o2 + k * 6, none⟩ = some (.int .u16 p.1.fl) ∧ w'.cell? ⟨b2, o2 + k * 6 + 1, none⟩ = some (.int .u16 p.1.kd) ∧ w'.cell? ⟨b2, o2 + k * 6 + 2, none⟩ = some (.int .u64 p.1.ck) ∧ w'.cell? ⟨b2, o2 + k * 6 + 3, none⟩ = some (.int .u64 p.1.ofs) ∧ w'.cell? ⟨b2, o2 + k * 6 + 4, none⟩ = some (.int .u32 p.1.ln) ∧ w'.cell? ⟨b2, o2 + k * 6 + 5, none⟩ = some (.slice A2 L2 C2)) := by
        have hbt : Below wr.heap.size wr wr.drew := (Below.refl _ _).drew
        refine (same_of p.1 A1 L1 C1 A2 L2 C2 p.2 wr.drew (d1.below hbt).1 (d2.below hbt).1).mono ?_
        rintro e w' ⟨h1, h2⟩
        have hc : ∀ {a v}, wr.cell? a = some v → w'.cell? a = some v := fun {a v} h => by rw [h2.cell (old_block (w := wr.drew) h)]; exact h
        exact ⟨h1, (hb.trans (hbt.mono hb.size)).trans (h2.mono hb.size), hc x0, hc x1, hc x2, hc x3, hc x4, hc x5, hc y0, hc y1, hc y2, hc y3, hc y4, hc y5⟩
      clear hp hp2 f1 f2 d1 d2 g1 g2 hb
      clear x0 x1 x2 x3 x4 x5 y0 y1 y2 y3 y4 y5
      obtain ⟨x0, x1, x2, x3, x4, x5, y0, y1, y2, y3, y4, y5⟩ := h12
      go_wp2_with fail
      go_region_held3 (fun Y => Y.cell? ⟨b1, o1 + k * 6, none⟩ = some (.int .u16 p.1.fl) ∧ Y.cell? ⟨b1, o1 + k * 6 + 1, none⟩ = some (.int .u16 p.1.kd) ∧ Y.cell? ⟨b1, o1 + k * 6 + 2, none⟩ = some (.int .u64 p.1.ck) ∧ Y.cell? ⟨b1, o1 + k * 6 + 3, none⟩ = some (.int .u64 p.1.ofs) ∧ Y.cell? ⟨b1, o1 + k * 6 + 4, none⟩ = some (.int .u32 p.1.ln) ∧ Y.cell? ⟨b1, o1 + k * 6 + 5, none⟩ = some (.slice A1 L1 C1) ∧ Y.cell? ⟨b2, o2 + k * 6, none⟩ = some (.int .u16 p.1.fl) ∧ Y.cell? ⟨b2, o2 + k * 6 + 1, none⟩ = some (.int .u16 p.1.kd) ∧ Y.cell? ⟨b2, o2 + k * 6 + 2, none⟩ = some (.int .u64 p.1.ck) ∧ Y.cell? ⟨b2, o2 + k * 6 + 3, none⟩ = some (.int .u64 p.1.ofs) ∧ Y.cell? ⟨b2, o2 + k * 6 + 4, none⟩ = some (.int .u32 p.1.ln) ∧ Y.cell? ⟨b2, o2 + k * 6 + 5, none⟩ = some (.slice A2 L2 C2)) (refine ⟨?_, ?_, ?_, ?_, ?_, ?_, ?_, ?_, ?_, ?_, ?_, ?_⟩ <;> with_reducible assumption)
        (first | (go_simp; go_at_call 17; refine HS.out.mono ?_; rintro e w2 ⟨rfl, hb2, v0, v1, v2, v3, v4, v5, u0, u1, u2, u3, u4, u5⟩))
      have HB : Hid (Below W.heap.size W w2) := hb2
      clear hb2 v0 v1 v2 v3 v4 v5 u0 u1 u2 u3 u4 u5 x0 x1 x2 x3 x4 x5 y0 y1 y2 y3 y4 y5
      go_wp2
      go_roundw
      case rel => exact ⟨k + 1, by omega, by simp, HB.out⟩
      case measure => simp [intOf]; omega
    · obtain rfl : k = n := by omega
      have HB : Hid (Below W.heap.size W wr) := hb
      clear hb
      go_wp2
      go_ret
      exact ⟨rfl, HB.out⟩
end Go.Proofs.Ythmhphjblglcoaa
