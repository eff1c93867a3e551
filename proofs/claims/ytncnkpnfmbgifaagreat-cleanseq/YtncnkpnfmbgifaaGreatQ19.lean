/- Texts of this seat, one behind the other: StBo, StDo, StDe. -/
import Derived.Test.YtncnkpnfmbgifaaGreatQ18
import Derived.Test.YtncnkpnfmbgifaaGreatP24
import Derived.Deep.RegionHeld3
/- What one call of New of the document's store does; both stores beside each other; what holds of them from the beginning on. -/
namespace Go.Proofs.YtncnkpnfmbgifaaGreat
open Go.RowKit
set_option linter.unusedVariables false
set_option maxRecDepth 4000
set_option maxHeartbeats 2000000 in
theorem dsnew_of (s : Sh) (W : World) (hz : -9223372036854775808 ≤ s.z) : Calls Tryz.prog 35 #[.agg (shL s).toArray] W fun e w' => Below W.heap.size W w' ∧ ((¬ RightS s ∧ e = .returned (.pointer none)) ∨ (RightS s ∧ ∃ D M k, e = .returned (.pointer (some ⟨k.ps, 0, none⟩)) ∧ SdV D M w' k (st0 s) ∧ ∀ x, SdO D M k x → W.heap.size ≤ x)) := by
 obtain ⟨q, hq⟩ : ∃ q, q = W.heap.size := ⟨_, rfl⟩
 have b0 : Below W.heap.size W (W.alloc (.cells (shL s).toArray 23)) := (Below.refl _ _).alloc (Nat.le_refl _) _
 have hN := rNew_of s (W.alloc (.cells (shL s).toArray 23)) hz
 have c0 : (W.alloc (.cells (shL s).toArray 23)).cell? ⟨W.heap.size, 0, none⟩ = some (.int .i64 s.z) := (Blk.new' (L := shL s) rfl rfl).cell 0
 have c1 : (W.alloc (.cells (shL s).toArray 23)).cell? ⟨W.heap.size, 1, none⟩ = some (.int .i64 s.zb) := (Blk.new' (L := shL s) rfl rfl).cell 1
 have c2 : (W.alloc (.cells (shL s).toArray 23)).cell? ⟨W.heap.size, 2, none⟩ = some (.int .i64 s.b) := (Blk.new' (L := shL s) rfl rfl).cell 2
 have c3 : (W.alloc (.cells (shL s).toArray 23)).cell? ⟨W.heap.size, 3, none⟩ = some (.int .i64 s.r) := (Blk.new' (L := shL s) rfl rfl).cell 3
 have HB : Hid (Below W.heap.size W (W.alloc (.cells (shL s).toArray 23))) := b0
 unfold shL at hN c0 c1 c2 c3 HB ⊢
 by_cases hr : RightS s
 ·have HN : Hid (Calls Tryz.prog 77 #[.agg #[.int .i64 s.z, .int .i64 s.zb, .int .i64 s.b, .int .i64 s.r]] (W.alloc (.cells #[.int .i64 s.z, .int .i64 s.zb, .int .i64 s.b, .int .i64 s.r] 23)) fun e w1 => ∃ p, e = .returned (.pointer (some ⟨p, 0, none⟩)) ∧ Calls Tryz.prog 78 #[.pointer (some ⟨p, 0, none⟩), .int .i64 0, .agg #[.int .u64 0, .slice none 0 0]] w1 fun e w2 => (∃ v, e = .returned v) ∧ Calls Tryz.prog 79 #[.pointer (some ⟨p, 0, none⟩), .int .u64 0, .slice none 0 0, .slice none 0 0, .int .i64 0] w2 fun e w' => ∃ D M k, e = .returned (.pointer (some ⟨k.ps, 0, none⟩)) ∧ Below W.heap.size W w' ∧ SdV D M w' k (st0 s) ∧ ∀ x, SdO D M k x → W.heap.size ≤ x) := by
   refine hN.mono ?_
   rintro e w1 ⟨hb, ⟨hn, _⟩ | ⟨_, p, rfl, hd⟩⟩
   ·exact (hn hr).elim
   ·refine ⟨p, rfl, (dkSave_of 0 0 none 0 0 [] hd (empty_wf hr) (by unfold FitsU; omega) (kin_none _) (by omega)).mono ?_⟩
    rintro e w2 ⟨rfl, O2, hd2, hO2, ho2⟩
    refine ⟨⟨_, rfl⟩, (don_nil hd2 (swf_svZ (empty_wf hr) 0 0 [])).mono ?_⟩
    have hb' : Below W.heap.size W w1 := HB.out.trans (hb.mono HB.out.size)
    have hW2 : W.heap.size ≤ w2.heap.size := Nat.le_trans hb'.size ho2.size
    have hge : ∀ x, O2 x → W.heap.size ≤ x := fun x hx => by
     rcases hO2 x hx with h | h
     ·have : (W.alloc (.cells #[.int .i64 s.z, .int .i64 s.zb, .int .i64 s.b, .int .i64 s.r] 23)).heap.size = W.heap.size + 1 := by simp
      rw [this] at h; omega
     ·have := hb'.size; omega
    have hb2 : Below W.heap.size W w2 := hb'.trans (ho2.below hb'.size (fun j hj => by
     have : (W.alloc (.cells #[.int .i64 s.z, .int .i64 s.zb, .int .i64 s.b, .int .i64 s.r] 23)).heap.size = W.heap.size + 1 := by simp
     rw [this] at hj; omega))
    rintro e w' ⟨hb3, k, rfl, hv, hk⟩
    refine ⟨_, _, k, rfl, hb2.trans (hb3.mono hW2), hv, fun x hx => ?_⟩
    rcases hx with hx | hx | hx
    ·exact hge x hx.1
    ·exact hx.elim
    ·have := hk x hx; omega
  clear hN b0
  go_enter Tryz.func35, Tryz.ntmps35
  go_wp2_with (first
   | (go_at_call 77; refine HN.out.mono ?_; rintro e w1 ⟨p, rfl, h1⟩)
   | (go_at_call 78; refine h1.mono ?_; rintro e w2 ⟨⟨v2, rfl⟩, h2⟩)
   | (go_at_call 79; refine h2.mono ?_; rintro e w3 ⟨D3, M3, k3, rfl, h3⟩))
  go_ret
  exact ⟨h3.1, .inr ⟨hr, D3, M3, k3, rfl, h3.2⟩⟩
 ·have HN : Hid (Calls Tryz.prog 77 #[.agg #[.int .i64 s.z, .int .i64 s.zb, .int .i64 s.b, .int .i64 s.r]] (W.alloc (.cells #[.int .i64 s.z, .int .i64 s.zb, .int .i64 s.b, .int .i64 s.r] 23)) fun e w1 => e = .returned (.pointer none) ∧ Below W.heap.size W w1) := by
   refine hN.mono ?_
   rintro e w1 ⟨hb, ⟨_, rfl⟩ | ⟨hh, _⟩⟩
   ·exact ⟨rfl, HB.out.trans (hb.mono HB.out.size)⟩
   ·exact (hr hh).elim
  clear hN b0
  go_enter Tryz.func35, Tryz.ntmps35
  go_wp2_with (go_at_call 77; refine HN.out.mono ?_; rintro e w1 ⟨rfl, hb1⟩)
  go_ret
  exact ⟨hb1, .inl ⟨hr, rfl⟩⟩

structure Inv2 (st : St) : Prop where
 inv : Inv st
 hi : ∀ x ∈ st.S, 2 ≤ x.2.1
 k0 : st.L.getD 0 0 = 4
 k1 : st.L.getD 1 0 = 4
 o : st.o = 0 ∨ st.o = 1
def Bo (B : Nat) (W : World) (ps rs : Nat) (st : St) (m : Nat) (w : World) : Prop :=
 ∃ D k D' M' k', k.ps = ps ∧ k'.ps = rs ∧ StV D w k st m ∧ SdV D' M' w k' st ∧ (∀ x, StO D k x → B ≤ x) ∧ (∀ x, SdO D' M' k' x → B ≤ x) ∧ (∀ x, StO D k x → ¬ SdO D' M' k' x) ∧ Below B W w ∧ st.S.length ≤ m
section
variable {B : Nat} {W w w' : World} {ps rs : Nat} {st st' : St} {m m' : Nat}
theorem StV.all {D : Nat → Prop} {k : Bs} {c : Nat} (h : StV D w k st c) : ∀ x, StO D k x → x < w.heap.size := by
 rintro x (hx | hx)
 ·exact h.lt x hx
 ·exact h.kin x hx
theorem Bo.under (h : Bo B W ps rs st m w) (hb : Below w.heap.size w w') : Bo B W ps rs st m w' := by
 obtain ⟨D, k, D', M', k', h1, h2, h3, h4, h5, h6, h7, h8, h9⟩ := h
 exact ⟨D, k, D', M', k', h1, h2, h3.under hb, h4.under hb, h5, h6, h7, h8.trans (hb.mono (by have e := h5 k.ps (.inr (.inl rfl)); have e2 := h3.hp.lt; omega)), h9⟩
theorem Bo.size (h : Bo B W ps rs st m w) : B ≤ w.heap.size ∧ W.heap.size ≤ w.heap.size := by
 obtain ⟨D, k, D', M', k', h1, h2, h3, h4, h5, h6, h7, h8, h9⟩ := h
 have e := h5 k.ps (.inr (.inl rfl))
 have e2 := h3.hp.lt
 exact ⟨by omega, h8.size⟩
theorem Bo.step {D D' M' : Nat → Prop} {k : Bs} {k' : Rs} {w1 w2 : World} (h1 : k.ps = ps) (h2 : k'.ps = rs) (h3 : StV D w k st m) (h4 : SdV D' M' w k' st) (h5 : ∀ x, StO D k x → B ≤ x) (h6 : ∀ x, SdO D' M' k' x → B ≤ x) (h7 : ∀ x, StO D k x → ¬ SdO D' M' k' x) (h8 : Below B W w)
  (sv : Sv D w k st' m' w1) : SdV D' M' w1 k' st ∧ (Sd (SdO D' M' k') w1 k' st' w2 → st'.S.length ≤ m' → Bo B W ps rs st' m' w2) := by
 obtain ⟨D1, hv1, hD1, ho1⟩ := sv
 have hs1 := ho1.size
 have hd : SdV D' M' w1 k' st := h4.out ho1 (fun x hx hs => h7 x hs hx)
 have hsB : B ≤ w.heap.size := by have e := h5 k.ps (.inr (.inl rfl)); have e2 := h3.hp.lt; omega
 have hb1 : Below B W w1 := h8.trans (ho1.below hsB (fun j hj => h5 j hj))
 refine ⟨hd, fun sd hl => ?_⟩
 obtain ⟨D2, M2, hv2, hR2, ho2⟩ := sd
 have hs2 := ho2.size
 have old : ∀ x, StO D1 k x → StO D k x ∨ w.heap.size ≤ x := fun x hx => by
  rcases hx with hx | hx
  ·rcases hD1 x hx with h | h
   ·exact .inl (.inl h)
   ·exact .inr h
  ·exact .inl (.inr hx)
 have apart : ∀ x, StO D1 k x → ¬ SdO D' M' k' x := fun x hx hs => by
  rcases old x hx with h | h
  ·exact h7 x h hs
  ·have := h4.all x hs; omega
 refine ⟨D1, k, D2, M2, k', h1, h2, hv1.out ho2 (fun x hx hs => apart x hx hs), hv2, fun x hx => ?_, fun x hx => ?_, fun x hx hs => ?_, hb1.trans (ho2.below (by omega) (fun j hj => h6 j hj)), hl⟩
 ·rcases old x hx with h | h
  ·exact h5 x h
  ·omega
 ·rcases hR2 x hx with h | h
  ·exact h6 x h
  ·omega
 ·rcases hR2 x hs with h | h
  ·exact apart x hx h
  ·have := hv1.all x hx; omega
end
end Go.Proofs.YtncnkpnfmbgifaaGreat

/- One call on both stores: they answer alike, and are alike then. -/
namespace Go.Proofs.YtncnkpnfmbgifaaGreat
open Go.RowKit
set_option linter.unusedVariables false
set_option maxRecDepth 4000
section
variable {B : Nat} {W w w' : World} {ps rs : Nat} {st : St} {m : Nat}
theorem flush_bo (h : Bo B W ps rs st m w) : Calls Tryz.prog 45 #[.pointer (some ⟨ps, 0, none⟩)] w fun e w1 => (∃ v, e = .returned v) ∧ Calls Tryz.prog 50 #[.pointer (some ⟨rs, 0, none⟩)] w1 fun e w2 => (∃ v, e = .returned v) ∧ Bo B W ps rs (flushM st) m w2 := by
 obtain ⟨D, k, D', M', k', h1, h2, h3, h4, h5, h6, h7, h8, h9⟩ := h
 have e := sflush_of h3
 rw [h1] at e
 refine e.mono ?_
 rintro e w1 ⟨hv, sv⟩
 have hs := fun w2 => Bo.step (w2 := w2) h1 h2 h3 h4 h5 h6 h7 h8 sv
 refine ⟨hv, ?_⟩
 have e := dsflush_of (hs w1).1
 rw [h2] at e
 refine e.mono ?_
 rintro e w2 ⟨hv2, sd⟩
 exact ⟨hv2, (hs w2).2 sd h9⟩
theorem mark_bo (h : Bo B W ps rs st m w) (hm : m ≤ 10000) (ho : st.o = 0 ∨ st.o = 1) : Calls Tryz.prog 46 #[.pointer (some ⟨ps, 0, none⟩)] w fun e w1 => e = .returned (.int .u16 (markM st).1) ∧ Calls Tryz.prog 51 #[.pointer (some ⟨rs, 0, none⟩)] w1 fun e w2 => e = .returned (.int .i64 (markM st).1) ∧ Bo B W ps rs (markM st).2 m w2 := by
 obtain ⟨D, k, D', M', k', h1, h2, h3, h4, h5, h6, h7, h8, h9⟩ := h
 have e := smark_of h3 (by omega) (by omega) ho
 rw [h1] at e
 refine e.mono ?_
 rintro e w1 ⟨rfl, sv⟩
 have hs := fun w2 => Bo.step (w2 := w2) h1 h2 h3 h4 h5 h6 h7 h8 sv
 refine ⟨rfl, ?_⟩
 have e := dsmark_of (hs w1).1 (by omega) ho
 rw [h2] at e
 refine e.mono ?_
 rintro e w2 ⟨rfl, sd⟩
 exact ⟨rfl, (hs w2).2 sd h9⟩
theorem clearM_S (st : St) (z : Int) : (clearM st z).S = st.S := by unfold clearM; split <;> rfl
end
end Go.Proofs.YtncnkpnfmbgifaaGreat

/- What one call of does (a call on both stores) does. -/
namespace Go.Proofs.YtncnkpnfmbgifaaGreat
open Go.RowKit
set_option linter.unusedVariables false
set_option maxRecDepth 4000
noncomputable def doM (st : St) (o : Od) : St := if o.k % 8 = 5 then flushM st else if o.k % 8 = 6 then (markM st).2 else if o.k % 8 = 7 then clearM st o.z else (putM st (o.l.map (blkP st.s.b.toNat))).2
section
variable {B : Nat} {W w : World} {ps rs : Nat} {st : St} {m : Nat}
theorem Bo.rcells (h : Bo B W ps rs st m w) : ∃ pd, w.cell? ⟨rs, 0, none⟩ = some (.pointer (some ⟨pd, 0, none⟩)) ∧ w.cell? ⟨pd, 2, none⟩ = some (.int .i64 st.s.b) := by
 obtain ⟨D, k, D', M', k', h1, h2, h3, h4, h5, h6, h7, h8, h9⟩ := h
 exact ⟨k'.pd, by rw [← h2]; exact h4.cells.1, h4.dcells.2.2.1⟩
theorem clear_bo2 (z : Int) {w2 : World} (h : Bo B W ps rs st m w) (hb : Below w.heap.size w w2) (hm : m ≤ 10000) : Calls Tryz.prog 47 #[.pointer (some ⟨ps, 0, none⟩), .int .i64 z] w2 fun e w1 => e = .returned (.bool (decide (clearOk st z))) ∧ (∀ g L t, w.heap.size ≤ g → Blk w2 g L t → Blk w1 g L t) ∧ Calls Tryz.prog 52 #[.pointer (some ⟨rs, 0, none⟩), .int .i64 z] w1 fun e w3 => e = .returned (.bool (decide (clearOk st z))) ∧ (∀ g L t, w.heap.size ≤ g → Blk w1 g L t → Blk w3 g L t) ∧ Bo B W ps rs (clearM st z) m w3 := by
 obtain ⟨D, k, D', M', k', h1, h2, h3, h4, h5, h6, h7, h8, h9⟩ := h
 have hB : B ≤ w.heap.size := by have e := h5 k.ps (.inr (.inl rfl)); have e2 := h3.hp.lt; omega
 have e := sclear_of z (h3.under hb) (by omega)
 rw [h1] at e
 refine e.mono ?_
 rintro e w1 ⟨rfl, sv⟩
 have hs := fun w2' => Bo.step (w2 := w2') h1 h2 (h3.under hb) (h4.under hb) h5 h6 h7 (h8.trans (hb.mono hB)) sv
 obtain ⟨D1, hv1, hD1, ho1⟩ := sv
 refine ⟨rfl, fun g L t hg hk => ho1.blk hk (fun hx => by have := h3.all g hx; omega), ?_⟩
 have e := dsclear_of z (hs w1).1 (by omega)
 rw [h2] at e
 refine e.mono ?_
 rintro e w3 ⟨rfl, sd⟩
 refine ⟨rfl, fun g L t hg hk => ?_, (hs w3).2 sd (by rw [clearM_S]; exact h9)⟩
 obtain ⟨D2, M2, hv2, hR2, ho2⟩ := sd
 exact ho2.blk hk (fun hx => by have := h4.all g hx; omega)
theorem put_bo2 {w2 : World} (h : Bo B W ps rs st m w) (hb : Below w.heap.size w w2) (a : Option Addr) (n cc : Nat) (l : List Pt) (X : Nat → Prop) (hl : PtsIn X w2 a n l) (hcc : n ≤ cc) (hX : ∀ x, X x → (x < B ∨ w.heap.size ≤ x) ∧ x < w2.heap.size) (hm : m + n ≤ 10000) : Calls Tryz.prog 34 #[.pointer (some ⟨ps, 0, none⟩), .slice a n cc] w2 fun e w1 => e = .returned (.int .u16 (putM st l).1) ∧ Calls Tryz.prog 49 #[.pointer (some ⟨rs, 0, none⟩), .slice a n cc] w1 fun e w3 => e = .returned (.int .i64 (putM st l).1) ∧ Bo B W ps rs (putM st l).2 (m + n) w3 := by
 obtain ⟨D, k, D', M', k', h1, h2, h3, h4, h5, h6, h7, h8, h9⟩ := h
 have hB : B ≤ w.heap.size := by have e := h5 k.ps (.inr (.inl rfl)); have e2 := h3.hp.lt; omega
 have x1 : ∀ x, X x → ¬ StO D k x := fun x hx hs => by have e1 := h5 x hs; have e2 := h3.all x hs; have := hX x hx; omega
 have x2 : ∀ x, X x → ¬ SdO D' M' k' x := fun x hx hs => by have e1 := h6 x hs; have e2 := h4.all x hs; have := hX x hx; omega
 have e := sput_of (h3.under hb) a n cc l X hl hcc (fun x h => ⟨x1 x h, (hX x h).2⟩) (by omega)
 rw [h1] at e
 refine e.mono ?_
 rintro e w1 ⟨rfl, sv⟩
 have hs := fun w2' => Bo.step (w2 := w2') h1 h2 (h3.under hb) (h4.under hb) h5 h6 h7 (h8.trans (hb.mono hB)) sv
 refine ⟨rfl, ?_⟩
 obtain ⟨D1, hv1, hD1, ho1⟩ := sv
 have e := dsput_of (hs w1).1 a n cc l X (hl.out ho1 x1) hcc (fun x h => ⟨x2 x h, by have := (hX x h).2; have := ho1.size; omega⟩) (by omega)
 rw [h2] at e
 refine e.mono ?_
 rintro e w3 ⟨rfl, sd, hlen⟩
 exact ⟨rfl, (hs w3).2 sd (by omega)⟩
theorem svE_small (s : Sh) (o : Int) (S : List Pl) : 0 ≤ svE s o S ∧ svE s o S ≤ 1000 := by
 unfold svE ckE
 repeat' split
 all_goals omega
theorem putSmall : ∀ (f : Nat) (st : St) (l : List Pt), 0 ≤ (putF f st l).1 ∧ (putF f st l).1 ≤ 1000
 | 0, st, l => by unfold putF; simp
 | f + 1, st, [] => by unfold putF; simp
 | f + 1, st, p :: l => by
  rw [putFstep]
  split
  ·exact putSmall f _ _
  ·simp
theorem putM_small (st : St) (l : List Pt) : 0 ≤ (putM st l).1 ∧ (putM st l).1 ≤ 1000 := by
 unfold putM
 split
 ·exact putSmall _ _ _
 ·simp
set_option maxHeartbeats 4000000 in
theorem does_of (h : Bo B W ps rs st m w) (ho : st.o = 0 ∨ st.o = 1) (hr : RightS st.s) (o : Od) (A : Option Addr) (N C : Nat) (hl : PtsIn (fun x => x < B) w A N o.l) (hk : Fits8 o.k) (hm : m + N ≤ 10000) :
  Calls Tryz.prog 80 #[.pointer (some ⟨ps, 0, none⟩), .pointer (some ⟨rs, 0, none⟩), .agg #[.int .u8 o.k, .slice A N C, .int .i64 o.z]] w fun e w' => e = .returned (.bool true) ∧ Bo B W ps rs (doM st o) (m + N) w' := by
 obtain ⟨q, hq⟩ : ∃ q, q = w.heap.size := ⟨_, rfl⟩
 have hb0 : Below w.heap.size w (w.alloc (.cells #[.int .u8 o.k, .slice A N C, .int .i64 o.z] 76)) := (Below.refl _ _).alloc (Nat.le_refl _) _
 have HV : Hid (Bo B W ps rs st m (w.alloc (.cells #[.int .u8 o.k, .slice A N C, .int .i64 o.z] 76)) ∧ Blk (w.alloc (.cells #[.int .u8 o.k, .slice A N C, .int .i64 o.z] 76)) q [.int .u8 o.k, .slice A N C, .int .i64 o.z] 76 ∧ PtsIn (fun x => x < B) (w.alloc (.cells #[.int .u8 o.k, .slice A N C, .int .i64 o.z] 76)) A N o.l) := ⟨h.under hb0, Blk.new' hq.symm rfl, hl.below hb0⟩
 have hkw : 0 ≤ o.k ∧ o.k < 256 := hk
 have hmono : ∀ st2 w2, Bo B W ps rs st2 m w2 → Bo B W ps rs st2 (m + N) w2 := fun st2 w2 hb => by
  obtain ⟨D, k, D', M', k', h1, h2, h3, h4, h5, h6, h7, h8, h9⟩ := hb
  exact ⟨D, k, D', M', k', h1, h2, h3.mono (by omega), h4, h5, h6, h7, h8, by omega⟩
 have HMo : Hid (∀ st2 w2, Bo B W ps rs st2 m w2 → Bo B W ps rs st2 (m + N) w2) := hmono
 have H0 : Bo B W ps rs st m w ∧ PtsIn (fun x => x < B) w A N o.l ∧ q = w.heap.size ∧ Below w.heap.size w (w.alloc (.cells #[.int .u8 o.k, .slice A N C, .int .i64 o.z] 76)) := ⟨h, hl, hq, hb0⟩
 have HH : Hid (Bo B W ps rs st m w ∧ PtsIn (fun x => x < B) w A N o.l ∧ q = w.heap.size ∧ Below w.heap.size w (w.alloc (.cells #[.int .u8 o.k, .slice A N C, .int .i64 o.z] 76))) := H0
 clear h hl hb0 hmono H0
 go_enter Tryz.func80, Tryz.ntmps80
 by_cases k5 : o.k % 8 = 5
 ·have e5 : (o.k % 8 == 5) = true := by simp [k5]
  have HD : Hid (doM st o = flushM st) := by show _ = _; unfold doM; rw [if_pos k5]
  have HF := flush_bo HV.out.1
  clear k5
  go_wp2_with (first
   | (go_at_call 45; refine HF.mono ?_; rintro e w2 ⟨⟨v2, rfl⟩, h2⟩; clear HF)
   | (go_at_call 50; refine h2.mono ?_; rintro e w3 ⟨⟨v3, rfl⟩, h3⟩))
  go_ret
  rw [HD.out]
  exact ⟨rfl, HMo.out _ _ h3⟩
 ·have e5 : (o.k % 8 == 5) = false := by simp [k5]
  by_cases k6 : o.k % 8 = 6
  ·have e6 : (o.k % 8 == 6) = true := by simp [k6]
   have HD : Hid (doM st o = (markM st).2) := by show _ = _; unfold doM; rw [if_neg k5, if_pos k6]
   have hE : IntKind.i64.wrap (markM st).1 = (markM st).1 := by have := svE_small st.s (1 - st.o) st.S; rw [IntKind.wrap_i64]; unfold markM; simp only; omega
   have HF := mark_bo HV.out.1 (by omega) ho
   generalize (markM st).1 = E at HF hE
   clear k5 k6
   go_wp2_with (first
    | (go_at_call 46; refine HF.mono ?_; rintro e w2 ⟨rfl, h2⟩; clear HF)
    | (go_at_call 51; refine h2.mono ?_; rintro e w3 ⟨rfl, h3⟩))
   go_ret
   rw [HD.out]
   exact ⟨by simp, HMo.out _ _ h3⟩
  ·have e6 : (o.k % 8 == 6) = false := by simp [k6]
   by_cases k7 : o.k % 8 = 7
   ·have e7 : (o.k % 8 == 7) = true := by simp [k7]
    have HD : Hid (doM st o = clearM st o.z) := by show _ = _; unfold doM; rw [if_neg k5, if_neg k6, if_pos k7]
    clear k5 k6 k7
    go_wp2_with fail
    rw [← hq]
    have HC : Hid (∀ Y, Below w.heap.size w Y → Blk Y q [.int .u8 o.k, .slice A N C, .int .i64 o.z] 76 → Calls Tryz.prog 47 #[.pointer (some ⟨ps, 0, none⟩), .int .i64 o.z] Y fun e w1 => e = .returned (.bool (decide (clearOk st o.z))) ∧ Calls Tryz.prog 52 #[.pointer (some ⟨rs, 0, none⟩), .int .i64 o.z] w1 (fun e w3 => e = .returned (.bool (decide (clearOk st o.z))) ∧ Bo B W ps rs (clearM st o.z) m w3 ∧ w3.cell? ⟨q, 2, none⟩ = some (.int .i64 o.z)) ∧ w1.cell? ⟨q, 2, none⟩ = some (.int .i64 o.z)) := fun Y hY hk => by
     refine (clear_bo2 o.z HH.out.1 hY (by omega)).mono ?_
     rintro e w1 ⟨rfl, f1, hc⟩
     have hq' := HH.out.2.2.1
     have b1 := f1 q _ _ (by omega) hk
     refine ⟨rfl, hc.mono ?_, b1.cell 2⟩
     rintro e w3 ⟨rfl, f3, hbo⟩
     exact ⟨rfl, hbo, (f3 q _ _ (by omega) b1).cell 2⟩
    have HV2 : Hid (Below w.heap.size w (w.alloc (.cells #[.int .u8 o.k, .slice A N C, .int .i64 o.z] 76)) ∧ Blk (w.alloc (.cells #[.int .u8 o.k, .slice A N C, .int .i64 o.z] 76)) q [.int .u8 o.k, .slice A N C, .int .i64 o.z] 76) := ⟨HH.out.2.2.2, HV.out.2.1⟩
    clear HV hq HH
    generalize World.alloc w _ = V at HV2 ⊢
    have y2 : V.cell? ⟨q, 2, none⟩ = some (.int .i64 o.z) := HV2.out.2.cell 2
    have HC2 := HC.out V.drew (HV2.out.1.drew) HV2.out.2.drew
    generalize decide (clearOk st o.z) = bb at HC2
    go_region_held3 (fun Y => Y.cell? ⟨q, 2, none⟩ = some (.int .i64 o.z)) (first | exact y2 | exact z2 | exact z3)
     (first
     | (go_simp; go_at_call 47; refine HC2.mono ?_; rintro e Y ⟨rfl, hd, z2⟩)
     | (go_simp; go_at_call 52; refine hd.mono ?_; rintro e Z ⟨rfl, hbo, z3⟩))
    have HB : Hid (Bo B W ps rs (clearM st o.z) m Z) := hbo
    clear hbo z2 z3 y2 HC2
    go_wp2
    go_ret
    rw [HD.out]
    exact ⟨by simp, HMo.out _ _ HB.out⟩
   ·have e7 : (o.k % 8 == 7) = false := by simp [k7]
    have HD : Hid (doM st o = (putM st (o.l.map (blkP st.s.b.toNat))).2) := by show _ = _; unfold doM; rw [if_neg k5, if_neg k6, if_neg k7]
    clear k5 k6 k7
    obtain ⟨bN, hbN⟩ : ∃ bN : Nat, st.s.b = bN := ⟨st.s.b.toNat, by have := (power_bounds hr.2.2.2.2.1).1; omega⟩
    have hbN2 : bN ≤ 10000 := by have := (power_bounds hr.2.2.2.2.1).2; omega
    have hbN3 : st.s.b.toNat = bN := by rw [hbN]; simp
    rw [hbN3] at HD
    obtain ⟨pd, hpd⟩ := HV.out.1.rcells
    rw [hbN] at hpd
    obtain ⟨r0, r2⟩ := hpd
    have HC : Hid (∀ Y, Below w.heap.size w Y → Blk Y q [.int .u8 o.k, .slice A N C, .int .i64 o.z] 76 → Calls Tryz.prog 135 #[.int .i64 (bN : Nat), .slice A N C] Y fun e Z => ∃ A2 C2, e = .returned (.slice A2 N C2) ∧ (Calls Tryz.prog 34 #[.pointer (some ⟨ps, 0, none⟩), .slice A2 N C2] Z fun e w1 => e = .returned (.int .u16 (putM st (o.l.map (blkP bN))).1) ∧ Calls Tryz.prog 49 #[.pointer (some ⟨rs, 0, none⟩), .slice A2 N C2] w1 fun e w3 => e = .returned (.int .i64 (putM st (o.l.map (blkP bN))).1) ∧ Bo B W ps rs (putM st (o.l.map (blkP bN))).2 (m + N) w3) ∧ Z.cell? ⟨rs, 0, none⟩ = some (.pointer (some ⟨pd, 0, none⟩)) ∧ Z.cell? ⟨pd, 2, none⟩ = some (.int .i64 (bN : Nat)) ∧ Z.cell? ⟨q, 1, none⟩ = some (.slice A N C)) := fun Y hY hk => by
     have hsz := HH.out.1.size
     refine (sblocks_of bN A N C o.l (fun x => x < B) Y (HH.out.2.1.below hY) hbN2 (fun x hx => by have := hY.size; omega)).mono ?_
     rintro e Z ⟨A2, C2, rfl, rs2⟩
     have hZ := hY.trans (rs2.bel.mono hY.size)
     have hn : (o.l.map (blkP bN)).length = N := by rw [List.length_map]; exact HH.out.2.1.1
     refine ⟨A2, C2, rfl, put_bo2 HH.out.1 hZ A2 N C2 _ _ (rs2.pts hn (by have := HH.out.2.1.2.1; omega)) rs2.cap (fun x hx => ⟨?_, hx.2⟩) hm, ?_⟩
     ·rcases hx.1 with h | h
      ·exact .inl h
      ·have := hY.size; exact .inr (by omega)
     ·have hbw := HH.out.1
      obtain ⟨D, k, D', M', k', h1, h2, h3, h4, _⟩ := hbw
      have hpd2 : pd = k'.pd := by
       have e1 := (h4.under HH.out.2.2.2).cells.1
       rw [h2, r0] at e1
       simpa using e1
      have e2 := (h4.under hZ).dcells.2.2.1
      rw [hbN] at e2
      refine ⟨by rw [hpd2, ← h2]; exact (h4.under hZ).cells.1, by rw [hpd2]; exact e2, (hk.below rs2.bel hk.lt).cell 1⟩
    have hE : IntKind.i64.wrap (putM st (o.l.map (blkP bN))).1 = (putM st (o.l.map (blkP bN))).1 := by have := putM_small st (o.l.map (blkP bN)); rw [IntKind.wrap_i64]; omega
    generalize putM st (o.l.map (blkP bN)) = pm at HC HD hE
    go_wp2_with fail
    rw [← hq]
    have HV2 : Hid (Below w.heap.size w (w.alloc (.cells #[.int .u8 o.k, .slice A N C, .int .i64 o.z] 76)) ∧ Blk (w.alloc (.cells #[.int .u8 o.k, .slice A N C, .int .i64 o.z] 76)) q [.int .u8 o.k, .slice A N C, .int .i64 o.z] 76) := ⟨HH.out.2.2.2, HV.out.2.1⟩
    clear HV hq HH hbN hbN2 hbN3
    generalize World.alloc w _ = V at HV2 r0 r2 ⊢
    have y1 : V.cell? ⟨q, 1, none⟩ = some (.slice A N C) := HV2.out.2.cell 1
    have HC2 := HC.out V.drew (HV2.out.1.drew) HV2.out.2.drew
    clear HC
    go_region_held3 (fun Y => Y.cell? ⟨rs, 0, none⟩ = some (.pointer (some ⟨pd, 0, none⟩)) ∧ Y.cell? ⟨pd, 2, none⟩ = some (.int .i64 (bN : Nat)) ∧ Y.cell? ⟨q, 1, none⟩ = some (.slice A N C)) (first | exact ⟨r0, r2, y1⟩ | exact ⟨z0, z2, z1⟩)
     (first | (go_simp; go_at_call 135; refine HC2.mono ?_; rintro e Y ⟨A2, C2, rfl, hp2, z0, z2, z1⟩))
    clear r0 r2 y1 z0 z2 z1 HC2
    go_wp2_with (first
     | (go_at_call 34; refine hp2.mono ?_; rintro e w4 ⟨rfl, h4⟩; clear hp2)
     | (go_at_call 49; refine h4.mono ?_; rintro e w5 ⟨rfl, h5⟩; clear h4))
    go_ret
    rw [HD.out]
    exact ⟨by simp, h5⟩
end
end Go.Proofs.YtncnkpnfmbgifaaGreat
