/- Texts of this seat, one behind the other: StD, StDa. -/
import Derived.Test.YtncnkpnfmbgifaaGreatP21
import Derived.Test.YtncnkpnfmbgifaaGreatQ6
import Derived.Test.YtncnkpnfmbgifaaGreatQ11
import Derived.Test.YtncnkpnfmbgifaaGreatP22
import Derived.Test.YtncnkpnfmbgifaaGreatQ7
/- The document's store in memory, and what one call on a part of it leaves of it. -/
namespace Go.Proofs.YtncnkpnfmbgifaaGreat
open Go.RowKit
set_option linter.unusedVariables false
set_option maxRecDepth 4000

def LmE (M : Nat → Prop) (w : World) (r : Nat) (S : List Pl) : Prop :=
 (∃ a n cc, Blk w r [.slice a n cc] 152 ∧ w.ownsRow 0 51 4 (.slice a n cc) n (plC S) ∧ ∀ g, (Value.slice a n cc).ownBlock = some g → M g) ∧ Good S
theorem LmE.d {M : Nat → Prop} {w : World} {r : Nat} {S : List Pl} (h : LmE M w r S) : LmD w r S := by
 obtain ⟨⟨a, n, cc, h1, h2, _⟩, hg⟩ := h
 exact ⟨⟨a, n, cc, h1, h2⟩, hg⟩
theorem LmE.lt {M : Nat → Prop} {w : World} {r : Nat} {S : List Pl} (h : LmE M w r S) : r < w.heap.size := h.d.lt
theorem LmE.out {M O : Nat → Prop} {w w' : World} {r : Nat} {S : List Pl} (h : LmE M w r S) (ho : Out O w w') (hr : ¬ O r) (hM : ∀ x, M x → ¬ O x) : LmE M w' r S := by
 obtain ⟨⟨a, n, cc, h1, h2, h3⟩, hg⟩ := h
 exact ⟨⟨a, n, cc, ho.blk h1 hr, ho.own h2 (fun g hg => hM g (h3 g hg)), h3⟩, hg⟩
theorem LmN.e {B : Nat} {w : World} {r : Nat} {S : List Pl} (h : LmN B w r S) : LmE (fun x => B ≤ x ∧ x < w.heap.size) w r S := by
 obtain ⟨⟨a, n, cc, h1, h2⟩, hg⟩ := h
 exact ⟨⟨a, n, cc, h1, own_zero h2, fun g hg => h2.lt g hg⟩, hg⟩
structure Rs where
 ps : Nat
 pd : Nat
 pg : Nat
 gg : Nat
 gc : Nat
 pm : Nat
 lb : Nat
def Rs.has (k : Rs) (x : Nat) : Prop := x = k.ps ∨ x = k.pg ∨ x = k.gg ∨ x = k.pm ∨ x = k.lb
def sdL (k : Rs) (q : Int) (n : Nat) (o : Int) : List Value := [.pointer (some ⟨k.pd, 0, none⟩), .pointer (some ⟨k.pg, 0, none⟩), .pointer (some ⟨k.pm, 0, none⟩), .int .u64 q, .slice (some ⟨k.lb, 0, none⟩) n n, .int .i64 o]
structure SdV (D M : Nat → Prop) (W : World) (k : Rs) (st : St) : Prop where
 hp : Blk W k.ps (sdL k st.q st.la.length st.o) 85
 dv : Dv 88 D W k.pd st.s st.zs
 sg : SegR W k.pg k.gg k.gc st.s st.L
 mp : LmE M W k.pm st.S
 hl : Blk W k.lb (kInts .u64 st.la) 47
 wf : Wf st.s st.zs
 fq : FitsU st.q
 len : st.L.length = st.zs.length ∧ st.la.length = st.zs.length
 lt : ∀ x, D x ∨ M x → x < W.heap.size
 nd : ∀ x, k.has x → ¬ D x ∧ ¬ M x
 dm : ∀ x, D x → ¬ M x
 ap : [k.ps, k.pg, k.gg, k.pm, k.lb].Nodup
def SdO (D M : Nat → Prop) (k : Rs) : Nat → Prop := fun x => D x ∨ M x ∨ k.has x
def Sd (R : Nat → Prop) (V : World) (k : Rs) (st : St) (W : World) : Prop := ∃ D M, SdV D M W k st ∧ (∀ x, SdO D M k x → R x ∨ V.heap.size ≤ x) ∧ Out R V W
section
variable {D M R : Nat → Prop} {V W W' : World} {k : Rs} {st st' : St}
theorem nodup5 {a b c d e : Nat} (h : [a, b, c, d, e].Nodup) : (a ≠ b ∧ a ≠ c ∧ a ≠ d ∧ a ≠ e) ∧ (b ≠ c ∧ b ≠ d ∧ b ≠ e) ∧ (c ≠ d ∧ c ≠ e) ∧ d ≠ e := by
 simpa [List.nodup_cons, not_or, and_assoc] using h
theorem SdV.kin (h : SdV D M W k st) : ∀ x, k.has x → x < W.heap.size := by
 rintro x (rfl | rfl | rfl | rfl | rfl)
 ·exact h.hp.lt
 ·exact h.sg.lt.1
 ·exact h.sg.lt.2
 ·exact h.mp.lt
 ·exact h.hl.lt
theorem SdV.all (h : SdV D M W k st) : ∀ x, SdO D M k x → x < W.heap.size := by
 rintro x (hx | hx | hx)
 ·exact h.lt x (.inl hx)
 ·exact h.lt x (.inr hx)
 ·exact h.kin x hx
theorem SdV.out {O : Nat → Prop} (h : SdV D M W k st) (ho : Out O W W') (hO : ∀ x, SdO D M k x → ¬ O x) : SdV D M W' k st := by
 have hk : ∀ x, k.has x → ¬ O x := fun x hx => hO x (.inr (.inr hx))
 refine ⟨ho.blk h.hp (hk _ (.inl rfl)), ?_, h.sg.out ho (hk _ (.inr (.inl rfl))) (hk _ (.inr (.inr (.inl rfl)))), h.mp.out ho (hk _ (.inr (.inr (.inr (.inl rfl))))) (fun x hx => hO x (.inr (.inl hx))), ho.blk h.hl (hk _ (.inr (.inr (.inr (.inr rfl))))), h.wf, h.fq, h.len, fun x hx => Nat.lt_of_lt_of_le (h.lt x hx) ho.size, h.nd, h.dm, h.ap⟩
 obtain ⟨g, cc, vs, hv⟩ := h.dv
 exact ⟨g, cc, vs, hv.out ho (fun x hx => hO x (.inl hx))⟩
theorem SdV.under (h : SdV D M W k st) (hb : Below W.heap.size W W') : SdV D M W' k st := h.out (below_out Non hb) (fun _ _ e => e)
theorem Sd.start (h : SdV D M W k st) : Sd (SdO D M k) W k st W := ⟨D, M, h, fun _ h => .inl h, Out.refl _ _⟩
theorem Sd.under (h : Sd R V k st W) (hb : Below W.heap.size W W') : Sd R V k st W' := by
 obtain ⟨D, M, h1, h2, h3⟩ := h
 exact ⟨D, M, h1.under hb, h2, h3.under hb⟩
theorem Sd.next (hR : ∀ x, SdO D M k x → R x ∨ V.heap.size ≤ x) (ho : Out R V W) (h : Sd (SdO D M k) W k st' W') : Sd R V k st' W' := by
 obtain ⟨D', M', h1, h2, h3⟩ := h
 refine ⟨D', M', h1, fun x hx => ?_, ho.trans h3 (fun j hj => hR j hj)⟩
 rcases h2 x hx with h | h
 ·exact hR x h
 ·have := ho.size; exact .inr (by omega)
theorem Sd.from {W1 : World} (hb : Below V.heap.size V W1) (h : Sd R W1 k st W) : Sd R V k st W := by
 obtain ⟨D, M, h1, h2, h3⟩ := h
 refine ⟨D, M, h1, fun x hx => ?_, (below_out _ hb).trans h3 (fun j e => .inl e)⟩
 rcases h2 x hx with h | h
 ·exact .inl h
 ·have := hb.size; exact .inr (by omega)
theorem SdV.dvstep {zs' : List Zn} (h : SdV D M W k st) (hs : Step 88 D W k.pd st.s zs' W') (hw : Wf st.s zs') : Sd (SdO D M k) W k { st with zs := zs' } W' := by
 obtain ⟨hd, ho⟩ := hs
 have hlen : zs'.length = st.zs.length := by have := hw.len; have := h.wf.len; omega
 have hn : ∀ x, k.has x → ¬ D x := fun x hx => (h.nd x hx).1
 refine ⟨Ext D W W', M, ⟨ho.blk h.hp (hn _ (.inl rfl)), hd, h.sg.out ho (hn _ (.inr (.inl rfl))) (hn _ (.inr (.inr (.inl rfl)))), h.mp.out ho (hn _ (.inr (.inr (.inr (.inl rfl))))) (fun x hx hd => h.dm x hd hx), ho.blk h.hl (hn _ (.inr (.inr (.inr (.inr rfl))))), hw, h.fq, by rw [hlen]; exact h.len, ?_, ?_, ?_, h.ap⟩, ?_, ho.mono (fun j e _ => .inl e)⟩
 ·rintro x ((hx | hx) | hx)
  ·exact Nat.lt_of_lt_of_le (h.lt x (.inl hx)) ho.size
  ·exact hx.2
  ·exact Nat.lt_of_lt_of_le (h.lt x (.inr hx)) ho.size
 ·intro x hx
  refine ⟨?_, (h.nd x hx).2⟩
  rintro (hd | hd)
  ·exact hn x hx hd
  ·have := h.kin x hx; omega
 ·rintro x (hx | hx) hm
  ·exact h.dm x hx hm
  ·have := h.lt x (.inr hm); omega
 ·rintro x ((hx | hx) | hx | hx)
  ·exact .inl (.inl hx)
  ·exact .inr hx.1
  ·exact .inl (.inr (.inl hx))
  ·exact .inl (.inr (.inr hx))
theorem SdV.sgstep {L' : List Int} (h : SdV D M W k st) (hs : SegR W' k.pg k.gg k.gc st.s L') (ho : Out (fun j => j = k.gg) W W') (hl : L'.length = st.L.length) : Sd (SdO D M k) W k { st with L := L' } W' := by
 obtain ⟨a1, a2, a3, a4⟩ := nodup5 h.ap
 have hg := h.nd k.gg (.inr (.inr (.inl rfl)))
 refine ⟨D, M, ⟨ho.blk h.hp (by omega), ?_, hs, h.mp.out ho (by omega) (fun x hx e => by subst e; exact hg.2 hx), ho.blk h.hl (by omega), h.wf, h.fq, by rw [hl]; exact h.len, fun x hx => Nat.lt_of_lt_of_le (h.lt x hx) ho.size, h.nd, h.dm, h.ap⟩, fun x hx => .inl hx, ho.mono (fun j e _ => .inr (.inr (.inr (.inr (.inl e)))))⟩
 obtain ⟨g, cc, vs, hv⟩ := h.dv
 exact ⟨g, cc, vs, hv.out ho (fun x hx e => by subst e; exact hg.1 hx)⟩
theorem SdV.mpstep {S' : List Pl} (h : SdV D M W k st) (hs : LmN W.heap.size W' k.pm S') (ho : Out (fun j => j = k.pm) W W') : Sd (SdO D M k) W k { st with S := S' } W' := by
 obtain ⟨a1, a2, a3, a4⟩ := nodup5 h.ap
 have hg := h.nd k.pm (.inr (.inr (.inr (.inl rfl))))
 refine ⟨D, fun x => W.heap.size ≤ x ∧ x < W'.heap.size, ⟨ho.blk h.hp (by omega), ?_, h.sg.out ho (by omega) (by omega), hs.e, ho.blk h.hl (by omega), h.wf, h.fq, h.len, ?_, ?_, ?_, h.ap⟩, ?_, ho.mono (fun j e _ => .inr (.inr (.inr (.inr (.inr (.inl e))))))⟩
 ·obtain ⟨g, cc, vs, hv⟩ := h.dv
  exact ⟨g, cc, vs, hv.out ho (fun x hx e => by subst e; exact hg.1 hx)⟩
 ·rintro x (hx | hx)
  ·exact Nat.lt_of_lt_of_le (h.lt x (.inl hx)) ho.size
  ·exact hx.2
 ·intro x hx
  refine ⟨(h.nd x hx).1, fun hm => ?_⟩
  have := h.kin x hx; omega
 ·intro x hx hm
  have := h.lt x (.inl hx); omega
 ·rintro x (hx | hx | hx)
  ·exact .inl (.inl hx)
  ·exact .inr hx.1
  ·exact .inl (.inr (.inr hx))
theorem SdV.setP (h : SdV D M W k st) {q o : Int} {i : Nat} {v : Value} (hL : (sdL k st.q st.la.length st.o).set i v = sdL k q st.la.length o) (hq : FitsU q) : Sd (SdO D M k) W k { st with q := q, o := o } (W.setCell ⟨k.ps, i, none⟩ v) := by
 obtain ⟨a1, a2, a3, a4⟩ := nodup5 h.ap
 have n1 : ¬ k.pg = k.ps := fun e => a1.1 e.symm
 have n2 : ¬ k.gg = k.ps := fun e => a1.2.1 e.symm
 have n3 : ¬ k.pm = k.ps := fun e => a1.2.2.1 e.symm
 have n4 : ¬ k.lb = k.ps := fun e => a1.2.2.2 e.symm
 have hg := h.nd k.ps (.inl rfl)
 have ho : Out (fun j => j = k.ps) W (W.setCell ⟨k.ps, i, none⟩ v) := out_one W k.ps i v
 have hp := h.hp.set i v
 rw [hL] at hp
 clear hL a1 a2 a3 a4
 generalize W.setCell ⟨k.ps, i, none⟩ v = W' at ho hp ⊢
 have dv : Dv 88 D W' k.pd st.s st.zs := by
  obtain ⟨g, cc, vs, hv⟩ := h.dv
  exact ⟨g, cc, vs, hv.out ho (fun x hx e => by subst e; exact hg.1 hx)⟩
 have hlt : ∀ x, D x ∨ M x → x < W'.heap.size := fun x hx => Nat.lt_of_lt_of_le (h.lt x hx) ho.size
 exact ⟨D, M, ⟨hp, dv, h.sg.out ho n1 n2, h.mp.out ho n3 (fun x hx e => by subst e; exact hg.2 hx), ho.blk h.hl n4, h.wf, hq, h.len, hlt, h.nd, h.dm, h.ap⟩, fun x hx => .inl hx, ho.mono (fun j e _ => .inr (.inr (.inl e)))⟩
theorem SdV.setLa (h : SdV D M W k st) (i : Nat) (b : Int) : Sd (SdO D M k) W k { st with la := st.la.set i b } (W.setCell ⟨k.lb, i, none⟩ (.int .u64 b)) := by
 obtain ⟨a1, a2, a3, a4⟩ := nodup5 h.ap
 have hg := h.nd k.lb (.inr (.inr (.inr (.inr rfl))))
 have ho : Out (fun j => j = k.lb) W (W.setCell ⟨k.lb, i, none⟩ (.int .u64 b)) := out_one W k.lb i _
 have hp := h.hl.set i (.int .u64 b)
 rw [kInts_set] at hp
 generalize W.setCell ⟨k.lb, i, none⟩ (.int .u64 b) = W' at ho hp ⊢
 refine ⟨D, M, ⟨?_, ?_, h.sg.out ho (by omega) (by omega), h.mp.out ho (by omega) (fun x hx e => by subst e; exact hg.2 hx), hp, h.wf, h.fq, ⟨h.len.1, by simpa using h.len.2⟩, fun x hx => Nat.lt_of_lt_of_le (h.lt x hx) ho.size, h.nd, h.dm, h.ap⟩, fun x hx => .inl hx, ho.mono (fun j e _ => .inr (.inr (.inr (.inr (.inr (.inr e))))))⟩
 ·have := ho.blk h.hp (by omega)
  simpa using this
 ·obtain ⟨g, cc, vs, hv⟩ := h.dv
  exact ⟨g, cc, vs, hv.out ho (fun x hx e => by subst e; exact hg.1 hx)⟩
theorem SdV.cells (h : SdV D M W k st) : W.cell? ⟨k.ps, 0, none⟩ = some (.pointer (some ⟨k.pd, 0, none⟩)) ∧ W.cell? ⟨k.ps, 1, none⟩ = some (.pointer (some ⟨k.pg, 0, none⟩)) ∧ W.cell? ⟨k.ps, 2, none⟩ = some (.pointer (some ⟨k.pm, 0, none⟩)) ∧ W.cell? ⟨k.ps, 3, none⟩ = some (.int .u64 st.q) ∧ W.cell? ⟨k.ps, 4, none⟩ = some (.slice (some ⟨k.lb, 0, none⟩) st.la.length st.la.length) ∧ W.cell? ⟨k.ps, 5, none⟩ = some (.int .i64 st.o) :=
 ⟨h.hp.cell 0, h.hp.cell 1, h.hp.cell 2, h.hp.cell 3, h.hp.cell 4, h.hp.cell 5⟩
theorem SdV.poke {g : Nat} (h : SdV D M W k st) (hg : ¬ SdO D M k g) (i : Nat) (u : Value) : SdV D M (W.setCell ⟨g, i, none⟩ u) k st :=
 h.out (out_one W g i u) (fun x hx e => hg (e ▸ hx))
theorem SdV.dcells (h : SdV D M W k st) : W.cell? ⟨k.pd, 0, none⟩ = some (.int .i64 st.s.z) ∧ W.cell? ⟨k.pd, 1, none⟩ = some (.int .i64 st.s.zb) ∧ W.cell? ⟨k.pd, 2, none⟩ = some (.int .i64 st.s.b) ∧ W.cell? ⟨k.pd, 3, none⟩ = some (.int .i64 st.s.r) := by
 obtain ⟨g, cc, vs, hv⟩ := h.dv
 exact ⟨hv.pcell.1, hv.pcell.2.1, hv.pcell.2.2.1, hv.pcell.2.2.2.1⟩
end
end Go.Proofs.YtncnkpnfmbgifaaGreat

/- What one call of open and many of the document's store does. -/
namespace Go.Proofs.YtncnkpnfmbgifaaGreat
open Go.RowKit
set_option linter.unusedVariables false
set_option maxRecDepth 4000
section
variable {D M : Nat → Prop} {W : World} {k : Rs} {st : St}
set_option maxHeartbeats 1000000 in
theorem dsopen_of (h : SdV D M W k st) : Calls Tryz.prog 91 #[.pointer (some ⟨k.ps, 0, none⟩)] W fun e w' => e = .returned (.tuple #[.int .i64 (curA st.L), .bool (curB st.L)]) ∧ Sd (SdO D M k) W k { st with L := curL st.L } w' := by
 obtain ⟨_, c1, _⟩ := h.cells
 have hg := dgList_of k.pg k.gg k.gc st.s st.L 2 W h.sg
 have H : Hid (SdV D M W k st) := h
 cases hl : listZ st.L 2 with
 | cons z r =>
  have HA : Hid (curA st.L = z ∧ curB st.L = true ∧ curL st.L = st.L) := by unfold curA curB curL; rw [hl]; exact ⟨rfl, rfl, rfl⟩
  rw [hl] at hg
  have HG : Hid (Calls Tryz.prog 39 #[.pointer (some ⟨k.pg, 0, none⟩), .int .u8 2] W fun e w' => ∃ g cc, e = .returned (.slice (some ⟨g, 0, none⟩) (r.length + 1) cc) ∧ w'.cell? ⟨g, 0, none⟩ = some (.int .i64 z) ∧ Below W.heap.size W w') := by
   refine hg.mono ?_
   rintro e w' ⟨A, cc, rfl, ow, bl⟩
   obtain ⟨g, rfl, hc⟩ := own_first (v := .int .i64 z) (vs := kInts .i64 r) ow
   exact ⟨g, cc, rfl, hc, bl⟩
  clear h hg hl
  go_enter Tryz.func91, Tryz.ntmps91
  go_wp2_with (go_at_call 39; refine HG.out.mono ?_; rintro e w2 ⟨g, cc, rfl, x0, bl⟩)
  go_ret2
  rw [HA.out.1, HA.out.2.1, HA.out.2.2]
  exact ⟨rfl, (Sd.start H.out).under bl⟩
 | nil =>
  have HA : Hid (curA st.L = takeI st.L ∧ curB st.L = takeB st.L ∧ curL st.L = takeZ st.L) := by unfold curA curB curL; rw [hl]; exact ⟨rfl, rfl, rfl⟩
  rw [hl] at hg
  have HG : Hid (Calls Tryz.prog 39 #[.pointer (some ⟨k.pg, 0, none⟩), .int .u8 2] W fun e w' => ∃ A cc, e = .returned (.slice A 0 cc) ∧ w'.cell? ⟨k.ps, 1, none⟩ = some (.pointer (some ⟨k.pg, 0, none⟩)) ∧ Calls Tryz.prog 142 #[.pointer (some ⟨k.pg, 0, none⟩)] w' fun e w'' => e = .returned (.tuple #[.int .i64 (takeI st.L), .bool (takeB st.L)]) ∧ Sd (SdO D M k) W k { st with L := takeZ st.L } w'') := by
   refine hg.mono ?_
   rintro e w' ⟨A, cc, rfl, ow, bl⟩
   have hs := h.under bl
   refine ⟨A, cc, rfl, hs.cells.2.1, (dgTake_of k.pg k.gg k.gc st.s st.L w' hs.sg).mono ?_⟩
   rintro e w'' ⟨rfl, h1, h2⟩
   exact ⟨rfl, (hs.sgstep h1 h2 (takeZ_length _)).from bl⟩
  clear h hg hl
  go_enter Tryz.func91, Tryz.ntmps91
  go_wp2_with (first
   | (go_at_call 39; refine HG.out.mono ?_; rintro e w2 ⟨A, cc, rfl, x1, ht⟩)
   | (go_at_call 142; refine ht.mono ?_; rintro e w3 ⟨rfl, sv⟩))
  go_ret2
  rw [HA.out.1, HA.out.2.1, HA.out.2.2]
  exact ⟨rfl, sv⟩
set_option maxHeartbeats 2000000 in
theorem dsmany_of (h : SdV D M W k st) (a : Option Addr) (n cc : Nat) (l : List Pt) (X : Nat → Prop) (r : Int) (hl : PtsIn X W a n l) (hr : 0 ≤ r ∧ r ≤ 10000) : Calls Tryz.prog 94 #[.pointer (some ⟨k.ps, 0, none⟩), .slice a n cc, .int .i64 r] W fun e w' => e = .returned (.int .i64 (frN l (roomI st.s.b).toNat (r - 1) : Nat)) ∧ w' = W := by
 have hn : n ≤ 1000 := hl.2.1
 obtain ⟨c0, _⟩ := h.cells
 obtain ⟨_, _, d2, _⟩ := h.dcells
 obtain ⟨R, hR⟩ : ∃ R : Nat, (R : Int) = roomI st.s.b := ⟨(roomI st.s.b).toNat, by
  have : 0 ≤ roomI st.s.b := by
   unfold roomI
   split
   ·rename_i hb; have := pow_bounds hb; omega
   ·omega
  omega⟩
 have hrm := dRoom_of st.s.b
 rw [← hR] at hrm
 rw [show (roomI st.s.b).toNat = R by omega]
 have H : Hid (PtsIn X W a n l) := hl
 clear h hl hR
 go_enter Tryz.func94, Tryz.ntmps94
 go_wp2
 go_loopw [7, 8] (fun dv nv wr => ∃ (j : Nat) (d : Nat), nv = .int .i64 j ∧ dv = .int .i64 d ∧ d ≤ j ∧ j ≤ n ∧ j ≤ R ∧ frN l R (r - 1) = j + frN (l.drop j) (R - j) (r - 1 - d) ∧ wr = W) (fun _ nv _ => n - (intOf nv).toNat)
 case atStart => exact ⟨0, 0, rfl, rfl, Nat.le_refl _, Nat.zero_le _, Nat.zero_le _, by simp, rfl⟩
 case round =>
  obtain ⟨j, d, rfl, rfl, hdj, hjn, hjR, hf, rfl⟩ := hrel
  have HF : Hid (frN l R (r - 1) = j + frN (l.drop j) (R - j) (r - 1 - d)) := hf
  clear hf
  by_cases hlt : j < n
  ·have hlt' : (j : Int) < n := by omega
   by_cases hltR : j < R
   ·have hltR' : (j : Int) < R := by omega
    obtain ⟨p, b, off, hp, rfl, hb, A, L, C, hc, _⟩ := H.out.at X hlt
    have x2 : wr.cell? ⟨b, off + j * 4 + 2, none⟩ = some (.bool p.x) := hc 2 _ rfl
    have hstep := frN_step (d := r - 1 - d) hp hltR
    have hwk : IntKind.i64.wrap ((j : Int) + 1) = (j : Int) + 1 := by rw [IntKind.wrap_i64]; omega
    have hwd : IntKind.i64.wrap ((d : Int) + 1) = (d : Int) + 1 := by rw [IntKind.wrap_i64]; omega
    have hwd2 : IntKind.i64.wrap ((d : Int) + 2) = (d : Int) + 2 := by rw [IntKind.wrap_i64]; omega
    clear hc
    cases hx : p.x with
    | true =>
     rw [hx, if_pos rfl] at hstep
     have HF2 : Hid (frN l R (r - 1) = (j + 1) + frN (l.drop (j + 1)) (R - (j + 1)) (r - 1 - d)) := by have := HF.out; rw [hstep] at this; exact (by omega : frN l R (r - 1) = (j + 1) + frN (l.drop (j + 1)) (R - (j + 1)) (r - 1 - d))
     rw [hx] at x2
     clear hx hstep hp
     go_wp2_with (go_at_call 144; refine (hrm _).mono ?_; rintro e w2 ⟨rfl, rfl⟩)
     go_roundw
     case rel => exact ⟨j + 1, d, by simp, rfl, by omega, by omega, by omega, HF2.out, trivial⟩
     case measure => simp [intOf]; omega
    | false =>
     rw [hx, if_neg (by decide)] at hstep
     rw [hx] at x2
     clear hx hp
     rcases Int.lt_or_le r ((d : Int) + 2) with hd0 | hd0
     ·rw [if_neg (by omega)] at hstep
      have HF2 : Hid (frN l R (r - 1) = j) := by have := HF.out; rw [hstep] at this; exact this
      clear hstep
      go_wp2_with (go_at_call 144; refine (hrm _).mono ?_; rintro e w2 ⟨rfl, rfl⟩)
      first | go_ret | (rw [Exit.noGoto_ret]; go_ret)
      exact ⟨by rw [HF2.out]; rfl, rfl⟩
     ·rw [if_pos (by omega)] at hstep
      have HF2 : Hid (frN l R (r - 1) = (j + 1) + frN (l.drop (j + 1)) (R - (j + 1)) (r - 1 - ((d + 1 : Nat) : Int))) := by have := HF.out; rw [hstep] at this; rw [show r - 1 - ((d + 1 : Nat) : Int) = r - 1 - d - 1 by omega]; exact (by omega : frN l R (r - 1) = (j + 1) + frN (l.drop (j + 1)) (R - (j + 1)) (r - 1 - d - 1))
      have hd0' : ¬ r < (d : Int) + 2 := by omega
      clear hstep
      go_wp2_with (go_at_call 144; refine (hrm _).mono ?_; rintro e w2 ⟨rfl, rfl⟩)
      go_roundw
      case rel => exact ⟨j + 1, d + 1, by simp, by simp, by omega, by omega, by omega, HF2.out, trivial⟩
      case measure => simp [intOf]; omega
   ·have hge : ¬ (j : Int) < R := by omega
    have HF2 : Hid (frN l R (r - 1) = j) := by have := HF.out; rw [frN_end H.out.1 (by omega)] at this; exact this
    go_wp2_with (go_at_call 144; refine (hrm _).mono ?_; rintro e w2 ⟨rfl, rfl⟩)
    first | go_ret | (rw [Exit.noGoto_ret]; go_ret)
    exact ⟨by rw [HF2.out]; rfl, rfl⟩
  ·have hge : ¬ (j : Int) < n := by omega
   have HF2 : Hid (frN l R (r - 1) = j) := by have := HF.out; rw [frN_end H.out.1 (by omega)] at this; exact this
   go_wp2
   first | go_ret | (rw [Exit.noGoto_ret]; go_ret)
   exact ⟨by rw [HF2.out]; rfl, rfl⟩
end
end Go.Proofs.YtncnkpnfmbgifaaGreat
