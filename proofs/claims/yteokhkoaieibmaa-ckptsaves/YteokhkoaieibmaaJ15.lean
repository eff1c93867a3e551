/- Texts of this seat, one behind the other: CkTurn, CkCr, CkCrs, CkOpen. -/
import Derived.Test.YteokhkoaieibmaaJ14
import Derived.Test.YteokhkoaieibmaaJ12
import Derived.Test.YteokhkoaieibmaaJ5
import Derived.Test.YteokhkoaieibmaaJ4
import Derived.Test.YteokhkoaieibmaaRows
import Derived.Lib.SmallJoins
import Derived.ProofKit
import Derived.OpenShut
import Derived.Deep.Slices
/- Checkpoints by turns: what stands between two of them. -/
namespace Go.Proofs.Yteokhkoaieibmaa
open Go.RowKit Go.Shelf
set_option linter.unusedVariables false
set_option maxRecDepth 4000

def TrSt (w : World) (s : Sh) (p slot : Nat) (S : Int) (wr : World) : Prop := ∃ O zs, Dv 104 O wr p s zs ∧ Wf s zs ∧ (∀ x, O x → w.heap.size ≤ x ∧ x < wr.heap.size) ∧ Below w.heap.size w wr ∧ (∀ z, zs[1 - slot]? = some z → IsK s z.1 → allSeq z.1 ≤ S)
def TrDone (w : World) (s : Sh) (p slot : Nat) (S : Int) (ps : List Pl) (V : World) : Prop := ∃ O zs, Dv 104 O V p s zs ∧ Wf s zs ∧ (∀ x, O x → w.heap.size ≤ x) ∧ Below w.heap.size w V ∧ bestK s zs 2 = (S, ps, (slot : Int), 0) ∧ (∀ z, zs[slot]? = some z → IsK s z.1 → allSeq z.1 ≤ S)
theorem not_isK_nil (s : Sh) : ¬ IsK s [] := fun h => by have := h.pos; simp at this
theorem tr_start {w V W : World} {s : Sh} {p : Nat} (hr : RightS s) (hb : Below w.heap.size w V) (hV : Below V.heap.size V W) (hd : Dv 104 (fun x => V.heap.size ≤ x) W p s (emptyZ s.z.toNat)) : TrSt w s p 0 0 W := by
  refine ⟨_, _, hd.there, empty_wf hr, fun x hx => ⟨by have := hb.size; have := hx.1; omega, hx.2⟩, hb.trans (hV.mono hb.size), fun z hz hk => ?_⟩
  have := (List.mem_replicate.1 (List.mem_of_getElem? hz)).2
  subst this
  exact absurd hk (not_isK_nil s)
theorem turn_save {w wr V : World} {s : Sh} {p slot : Nat} {S S' : Int} {A : Option Addr} {N C : Nat} {ps : List Pl} (h : TrSt w s p slot S wr) (hV : Below wr.heap.size wr V) (hs : slot < 2) (hS : S < S') (hF : FitsU S') (hk : KIn V A N ps) (hN : N ≤ C) :
    Calls Try.prog 24 #[.pointer (some ⟨p, 0, none⟩), .int .i64 (slot : Int), .agg #[.int .u64 S', .slice A N C]] V fun e V' => ∃ E, e = .returned (.int .u16 E) ∧ (E = 0 → TrDone w s p slot S' ps V') ∧ Below w.heap.size w V' ∧ ∀ g L t, Blk V g L t → wr.heap.size ≤ g → Blk V' g L t := by
  obtain ⟨O, zs, hd, hw, hO, hb, hz⟩ := h
  refine (ksave_of (slot : Int) S' A N C ps (kdv_under hd hV) hw hF hk hN).mono ?_
  rintro e V' ⟨rfl, O', hd', hO', ho⟩
  have h1 := hb.size
  have h2 := hV.size
  have hbV : Below w.heap.size w V := hb.trans (hV.mono h1)
  have hbV' : Below w.heap.size w V' := hbV.trans (ho.below hbV.size (fun x hx => (hO x hx).1))
  refine ⟨_, rfl, fun hE => ?_, hbV', fun g L t hg hlt => ho.blk hg (fun hx => by have := (hO g hx).2; omega)⟩
  have hck : ckE s ps = 0 := by unfold svE at hE; rwa [if_pos (by omega)] at hE
  rw [(svZ_ok (zs := zs) (seq := S') hs hck).2] at hd'
  have hlen : 6 ≤ zs.length := by have h3 := hw.len; have h4 := hw.right.1; omega
  have hn : ∀ x ∈ ps, FitsN x.1 := fun x hx => (hk.2.2.1 x hx).1
  obtain ⟨k1, k2, k3⟩ := isK_enc hF hn hck
  have hat : (putZ zs slot (ckL s S' ps))[slot]? = some (ckL s S' ps, ((ckL s S' ps).length : Int)) := putZ_at (by omega)
  obtain ⟨z, hzz⟩ : ∃ z, zs[1 - slot]? = some z := ⟨zs[1 - slot]'(by omega), by simp⟩
  have hot : (putZ zs slot (ckL s S' ps))[1 - slot]? = some (z.1, (z.1.length : Int)) := putZ_other (by omega) hzz
  have hlt : IsK s z.1 → allSeq z.1 < S' := fun hk => by have := hz z hzz hk; omega
  refine ⟨_, _, hd', wf_putZ hw slot hck, fun x hx => ?_, hbV', ?_, fun z' hz' _ => ?_⟩
  · rcases hO' x hx with h | h
    · exact (hO x h).1
    · omega
  · match slot, hs, hat, hot with
    | 0, _, hat, hot =>
      have := (best_i (s := s) hat hot).1 k1 (fun h => by have h2 : allSeq (ckL s S' ps) < allSeq z.1 := h.2; have h3 := hlt h.1; rw [k2] at h2; omega)
      rw [this, k2, k3]; rfl
    | 1, _, hat, hot =>
      have := (best_i (s := s) hot hat).2 k1 (fun h => by rw [k2]; exact hlt h)
      rw [this, k2, k3]; rfl
  · rw [hat] at hz'
    obtain rfl := Option.some.inj hz'
    rw [k2]
    exact Int.le_refl _
theorem turn_load {w V : World} {s : Sh} {p slot : Nat} {S : Int} {ps : List Pl} (h : TrDone w s p slot S ps V) :
    Calls Try.prog 22 #[.pointer (some ⟨p, 0, none⟩)] V fun e V' => ∃ A N C, e = .returned (.tuple #[.agg #[.int .u64 S, .slice A N C], .int .i64 (slot : Int), .int .u16 0]) ∧ KIn V' A N ps ∧ Below V.heap.size V V' := by
  obtain ⟨O, zs, hd, hw, hO, hb, hB, hz⟩ := h
  refine (kload_of hd hw).mono ?_
  rintro e V' ⟨A, N, C, rfl, h1, h2, h3⟩
  rw [hB] at h1 ⊢
  exact ⟨A, N, C, rfl, h1, h3⟩
theorem turn_next {w V V' : World} {s : Sh} {p slot : Nat} {S : Int} {ps : List Pl} (h : TrDone w s p slot S ps V) (hs : slot < 2) (hV : Below V.heap.size V V') : TrSt w s p (1 - slot) S V' := by
  obtain ⟨O, zs, hd, hw, hO, hb, hB, hz⟩ := h
  refine ⟨_, zs, (kdv_under hd hV).there, hw, fun x hx => ⟨hO x hx.1, hx.2⟩, hb.trans (hV.mono hb.size), fun z hzz => hz z ?_⟩
  rw [show 1 - (1 - slot) = slot by omega] at hzz
  exact hzz
theorem TrSt.bel {w wr : World} {s : Sh} {p slot : Nat} {S : Int} (h : TrSt w s p slot S wr) : Below w.heap.size w wr := by
  obtain ⟨O, zs, _, _, _, hb, _⟩ := h
  exact hb
end Go.Proofs.Yteokhkoaieibmaa

/- What a crash leaves of a checkpoint that was being written. -/
namespace Go.Proofs.Yteokhkoaieibmaa
open Go.RowKit
set_option linter.unusedVariables false
set_option maxRecDepth 4000

theorem torn_last (D : List Int) {m : Nat} (h : m < D.length) : (tornL D m).getLast? = some 0 := by
  obtain ⟨j, hj⟩ : ∃ j, D.length - m = j + 1 := ⟨D.length - m - 1, by omega⟩
  unfold tornL
  rw [hj, List.replicate_succ', ← List.append_assoc, List.getLast?_append]
  rfl
/-- It is a state only if all of it is there. -/
theorem kept_isK {s : Sh} {l : List (List Int)} (h : IsK s l) (hf : ∀ b ∈ l, ∀ z ∈ b, Fits8 z) {n : Nat} (hn : n ≤ l.length) {k t : Int} (h' : IsK s (keptB (l.take n) k t)) : n = l.length ∧ keptB (l.take n) k t = l := by
  have hb8 : ∀ (i : Nat) (b : List Int), l[i]? = some b → 64 ≤ b.length := by
    intro i b hb
    have hg := (ckE_zero.1 h.1).1.1
    have := pow_bounds (show s.b ∈ PowR from hg.2.2.2.2.1)
    rw [(h.each hf hb).2.2.2.2.2.2.1]; omega
  have sub : ∀ m : Nat, ∀ b ∈ l.take m, b ∈ l := fun m b hb => List.mem_of_mem_take hb
  have whole : ∀ m : Nat, IsK s (l.take m) → l.length ≤ m := by
    intro m hm
    apply Nat.le_of_not_lt
    intro hlt
    exact h.other hf (sub m) (by rw [List.length_take]; omega) hm
  unfold keptB at h' ⊢
  have e : (l.take n).take k.toNat = l.take (min k.toNat n) := by rw [List.take_take]
  rw [e] at h' ⊢
  by_cases hk : k.toNat < n
  · obtain ⟨D, hD⟩ : ∃ D, l[k.toNat]? = some D := ⟨_, List.getElem?_eq_getElem (by omega)⟩
    have hD' : (l.take n)[k.toNat]? = some D := by rw [List.getElem?_take_of_lt hk]; exact hD
    have hmin : min k.toNat n = k.toNat := by omega
    rw [hD', hmin] at h' ⊢
    simp only at h' ⊢
    by_cases ht : 0 < t
    · rw [if_pos ht] at h' ⊢
      by_cases hm : D.length ≤ t.toNat
      · have e1 : tornL D (min t.toNat D.length) = D := by rw [show min t.toNat D.length = D.length by omega]; exact tornL_all D
        have e2 : l.take k.toNat ++ [D] = l.take (k.toNat + 1) := by
          rw [List.take_succ_eq_append_getElem (by omega)]
          congr 2
          exact (List.getElem?_eq_some_iff.1 hD).2.symm
        rw [e1, e2] at h' ⊢
        have := whole _ h'
        exact ⟨by omega, List.take_of_length_le this⟩
      · exfalso
        have hlt : min t.toNat D.length < D.length := by omega
        have hfit : ∀ b ∈ l.take k.toNat ++ [tornL D (min t.toNat D.length)], ∀ z ∈ b, Fits8 z := by
          intro b hb
          rcases List.mem_append.1 hb with hb | hb
          · exact hf b (List.mem_of_mem_take hb)
          · rw [List.mem_singleton.1 hb]
            exact tornL_fits (hf D (List.mem_of_getElem? hD))
        have hl := h'.last hfit (i := k.toNat) (b := tornL D (min t.toNat D.length)) (by
          rw [List.getElem?_append_right (by rw [List.length_take]; omega), List.length_take]
          rw [show k.toNat - min k.toNat l.length = 0 by omega]
          rfl)
        rw [torn_last D hlt] at hl
        cases hl
    · rw [if_neg ht, List.append_nil] at h' ⊢
      have := whole _ h'
      omega
  · have hmin : min k.toNat n = n := by omega
    have hnone : (l.take n)[k.toNat]? = none := List.getElem?_eq_none (by rw [List.length_take]; omega)
    rw [hnone, hmin] at h' ⊢
    simp only [List.append_nil] at h' ⊢
    have := whole _ h'
    exact ⟨by omega, List.take_of_length_le this⟩
end Go.Proofs.Yteokhkoaieibmaa

/- A crash while a checkpoint is written: what the device holds on the way, and what Load tells then. -/
namespace Go.Proofs.Yteokhkoaieibmaa
open Go.RowKit Go.Shelf
set_option linter.unusedVariables false
set_option maxRecDepth 4000

def CrB (V : World) (s : Sh) (p : Nat) (zs : List Zn) (wr : World) : Prop := ∃ O, Dv 104 O wr p s zs ∧ Wf s zs ∧ (∀ x, O x → V.heap.size ≤ x ∧ x < wr.heap.size) ∧ Below V.heap.size V wr
def CrA (V : World) (s : Sh) (p : Nat) (zs : List Zn) (ls : List (List Int)) (i : Nat) (av : Option Addr) (nv cv : Nat) (k : Nat) (wr : World) : Prop := ∃ O Q, Dv 104 O wr p s (zs.set i (ls.take k, 0)) ∧ (∀ x, O x → V.heap.size ≤ x ∧ x < wr.heap.size) ∧ Below V.heap.size V wr ∧ RowAt Q wr (.slice av nv cv) ls ∧ (∀ c, Q c → ¬ O c ∧ c < wr.heap.size)
theorem cr_start {V W : World} {s : Sh} {p : Nat} (hr : RightS s) (hV : Below V.heap.size V W) (hd : Dv 104 (fun x => V.heap.size ≤ x) W p s (emptyZ s.z.toNat)) : CrB V s p (emptyZ s.z.toNat) W := ⟨_, hd.there, empty_wf hr, fun x hx => hx, hV⟩
theorem CrB.bel {V wr : World} {s : Sh} {p : Nat} {zs : List Zn} (h : CrB V s p zs wr) : Below V.heap.size V wr := by obtain ⟨_, _, _, _, h⟩ := h; exact h
theorem CrA.bel {V wr : World} {s : Sh} {p : Nat} {zs : List Zn} {ls : List (List Int)} {i : Nat} {av : Option Addr} {nv cv k : Nat} (h : CrA V s p zs ls i av nv cv k wr) : Below V.heap.size V wr := by obtain ⟨_, _, _, _, h, _⟩ := h; exact h
theorem cr_save {V W : World} {s : Sh} {p slot : Nat} {zs : List Zn} {S : Int} {A : Option Addr} {N C : Nat} {ps : List Pl} (h : CrB V s p zs W) (hs : slot < 2) (hF : FitsU S) (hk : KIn V A N ps) (hN : N ≤ C) :
    Calls Try.prog 24 #[.pointer (some ⟨p, 0, none⟩), .int .i64 (slot : Int), .agg #[.int .u64 S, .slice A N C]] W fun e W' => ∃ E, e = .returned (.int .u16 E) ∧ (E = 0 → ckE s ps = 0 ∧ CrB V s p (putZ zs slot (ckL s S ps)) W') ∧ Below V.heap.size V W' := by
  obtain ⟨O, hd, hw, hO, hb⟩ := h
  refine (ksave_of (slot : Int) S A N C ps hd hw hF (hk.below hb) hN).mono ?_
  rintro e W' ⟨rfl, O', hd', hO', ho⟩
  have hbV' : Below V.heap.size V W' := hb.trans (ho.below hb.size (fun x hx => (hO x hx).1))
  refine ⟨_, rfl, fun hE => ?_, hbV'⟩
  have hck : ckE s ps = 0 := by unfold svE at hE; rwa [if_pos (by omega)] at hE
  rw [(svZ_ok (zs := zs) (seq := S) hs hck).2] at hd'
  refine ⟨hck, _, hd'.there, wf_putZ hw slot hck, fun x hx => ⟨?_, hx.2⟩, hbV'⟩
  rcases hO' x hx.1 with h | h
  · exact (hO x h).1
  · have := hb.size; omega
theorem cr_reset {V W Z : World} {s : Sh} {p : Nat} {zs : List Zn} {ls : List (List Int)} (i : Nat) {av : Option Addr} {nv cv : Nat} (h : CrB V s p zs W) (hZ : Below W.heap.size W Z) (hr : RowAt (fun j => W.heap.size ≤ j) Z (.slice av nv cv) ls) :
    Calls Try.prog 30 #[.pointer (some ⟨p, 0, none⟩), .int .i64 (i : Int)] Z fun e w' => (∃ v, e = .returned v) ∧ CrA V s p zs ls i av nv cv 0 w' := by
  obtain ⟨O, hd, hw, hO, hb⟩ := h
  refine (reset_of (i : Int) (kdv_under hd hZ)).mono ?_
  rintro e w' ⟨rfl, hd', ho⟩
  rw [resetZ_in, ← List.take_zero (l := ls)] at hd'
  have hs := ho.size
  have hsz := hZ.size
  have hbZ : Below V.heap.size V Z := hb.trans (hZ.mono hb.size)
  have r1 : RowAt (fun j => W.heap.size ≤ j ∧ j < Z.heap.size) Z (.slice av nv cv) ls := hr.mono (fun c hc hlt => ⟨hc, hlt⟩)
  have r2 := r1.out ho (fun r e h => by obtain ⟨_, _, r2, _⟩ := r1; have h1 := r2 r e; have h2 := (hO r h).2; omega) (fun c _ hc _ h => by have h2 := (hO c h).2; omega)
  refine ⟨⟨_, rfl⟩, _, _, hd'.there, ?_, hbZ.trans (ho.below hbZ.size (fun x hx => (hO x hx).1)), r2, ?_⟩
  · intro x hx
    refine ⟨?_, hx.2⟩
    rcases hx.1 with h | h
    · exact (hO x h).1
    · have := hbZ.size; omega
  · intro c hc
    refine ⟨fun hx => ?_, by omega⟩
    rcases hx.1 with h | h
    · have := (hO c h).2; omega
    · omega
theorem cr_app {V wr : World} {s : Sh} {p i : Nat} {zs : List Zn} {ls : List (List Int)} {av : Option Addr} {nv cv k : Nat} (h : CrA V s p zs ls i av nv cv k wr) (hw : Wf s zs) (hi : i < zs.length) (hl : ∀ D ∈ ls, (D.length : Int) = s.b) (hz : (ls.length : Int) ≤ s.zb) (hsh : Short ls) (hk : k < ls.length) :
    ∃ b off A1 L1 C1, av = some ⟨b, off, none⟩ ∧ wr.cell? ⟨b, off + k, none⟩ = some (.slice A1 L1 C1) ∧ Calls Try.prog 31 #[.pointer (some ⟨p, 0, none⟩), .int .i64 (i : Int), .slice A1 L1 C1] wr fun e w' => (∃ v, e = .returned v) ∧ CrA V s p zs ls i av nv cv (k + 1) w' := by
  obtain ⟨O, Q, hd, hO, hb, row, hQ⟩ := h
  obtain ⟨D, hD⟩ : ∃ D, ls[k]? = some D := ⟨ls[k], by simp⟩
  obtain ⟨b', off, A1, L1, C1, hA, k1, k2, k3, _, k5⟩ := (row.bsin hsh).at hD
  refine ⟨b', off, A1, L1, C1, hA, k1, ?_⟩
  refine (append_of (i : Int) A1 L1 C1 D hd (wf_put hw i k hl hz) k2 k3 k5).mono ?_
  rintro e w' ⟨rfl, hd', ho⟩
  rw [app_next hi hD (hl D (List.mem_of_getElem? hD)) hz] at hd'
  have hs := ho.size
  have r2 := row.out ho (fun r e h => by obtain ⟨_, _, r2, _⟩ := row; exact (hQ r (r2 r e)).1 h) (fun c _ hc _ h => (hQ c hc).1 h)
  refine ⟨⟨_, rfl⟩, _, _, hd'.there, ?_, hb.trans (ho.below hb.size (fun x hx => (hO x hx).1)), r2, ?_⟩
  · intro x hx
    refine ⟨?_, hx.2⟩
    rcases hx.1 with h | h
    · exact (hO x h).1
    · have := hb.size; omega
  · intro c hc
    have := (hQ c hc).2
    refine ⟨fun hx => ?_, by omega⟩
    rcases hx.1 with h | h
    · exact (hQ c hc).1 h
    · omega
theorem cr_crash {V wr : World} {s : Sh} {p i : Nat} {zs : List Zn} {ls : List (List Int)} {av : Option Addr} {nv cv k : Nat} {a : Option Addr} {n c : Nat} {xs : List (Int × Int)} (h : CrA V s p zs ls i av nv cv k wr) (hw : Wf s zs) (hl : ∀ D ∈ ls, (D.length : Int) = s.b) (hz : (ls.length : Int) ≤ s.zb) (hx : LsIn V a n xs) :
    Calls Try.prog 32 #[.pointer (some ⟨p, 0, none⟩), .slice a n c] wr fun e w' => (∃ v, e = .returned v) ∧ CrB V s p (crashZ xs (zs.set i (ls.take k, 0))) w' := by
  obtain ⟨O, Q, hd, hO, hb, row, hQ⟩ := h
  have hwf := wf_put hw i k hl hz
  refine (crash_of a n c xs hd hwf (hx.below hb) (fun hn ad e hO' => ?_)).mono ?_
  · obtain ⟨b, off, e', hc⟩ := hx.2.2.2.resolve_left hn
    rw [e] at e'; cases e'
    have h1 : b < V.heap.size := old_block (hc 0 (xs[0]'(by have := hx.1; omega)) (by simp)).1
    have h2 : V.heap.size ≤ b := (hO _ hO').1
    omega
  rintro e w' ⟨hv, hd', ho⟩
  refine ⟨hv, _, hd'.there, hwf.crash xs, fun x hx => ⟨?_, hx.2⟩, hb.trans (ho.below hb.size (fun x hx => (hO x hx).1))⟩
  rcases hx.1 with h | h
  · exact (hO x h).1
  · have := hb.size; omega
theorem crash_at {xs : List (Int × Int)} {zs : List Zn} {j : Nat} {z : Zn} (h : zs[j]? = some z) : (crashZ xs zs)[j]? = some (cr1 (lossAt xs j) z) := by
  unfold crashZ
  rw [List.getElem?_mapIdx, h]
  rfl
theorem kept_nil (k t : Int) : keptB [] k t = [] := by simp [keptB]
theorem cr_best {s : Sh} {one n : Nat} {S0 S1 : Int} {ps0 ps1 : List Pl} (hone : one < 2) (hr : RightS s) (hF0 : FitsU S0) (hF1 : FitsU S1) (hn0 : ∀ x ∈ ps0, FitsN x.1) (hn1 : ∀ x ∈ ps1, FitsN x.1) (h0 : ckE s ps0 = 0) (h1 : ckE s ps1 = 0) (hlt : S0 < S1) (hn : n ≤ (ckL s S1 ps1).length) (xs : List (Int × Int)) :
    bestK s (crashZ xs ((putZ (emptyZ s.z.toNat) one (ckL s S0 ps0)).set (1 - one) ((ckL s S1 ps1).take n, 0))) 2 = (S0, ps0, (one : Int), 0) ∨ (n = (ckL s S1 ps1).length ∧ bestK s (crashZ xs ((putZ (emptyZ s.z.toNat) one (ckL s S0 ps0)).set (1 - one) ((ckL s S1 ps1).take n, 0))) 2 = (S1, ps1, ((1 - one : Nat) : Int), 0)) := by
  obtain ⟨a1, a2, a3⟩ := isK_enc hF0 hn0 h0
  obtain ⟨b1, b2, b3⟩ := isK_enc hF1 hn1 h1
  have hlen : 6 ≤ (emptyZ s.z.toNat).length := by have := hr.1; simp [emptyZ]; omega
  have hfit : ∀ b ∈ ckL s S1 ps1, ∀ z ∈ b, Fits8 z := by
    intro b hb
    obtain ⟨i, _, rfl⟩ := ckL_mem hb
    exact ckB_fits
  have z1 : ((putZ (emptyZ s.z.toNat) one (ckL s S0 ps0)).set (1 - one) ((ckL s S1 ps1).take n, 0))[one]? = some (ckL s S0 ps0, ((ckL s S0 ps0).length : Int)) := by
    rw [List.getElem?_set_ne (by omega)]
    exact putZ_at (by omega)
  have z2 : ((putZ (emptyZ s.z.toNat) one (ckL s S0 ps0)).set (1 - one) ((ckL s S1 ps1).take n, 0))[1 - one]? = some ((ckL s S1 ps1).take n, 0) := by
    rw [List.getElem?_set_self (by rw [putZ_len]; omega)]
  have c1 := crash_at (xs := xs) z1
  have c2 := crash_at (xs := xs) z2
  have e1 : (cr1 (lossAt xs one) (ckL s S0 ps0, ((ckL s S0 ps0).length : Int))).1 = ckL s S0 ps0 := by
    simp only [cr1, crashB, Int.toNat_natCast, List.take_length, List.drop_length, kept_nil, List.append_nil]
  have e2 : (cr1 (lossAt xs (1 - one)) ((ckL s S1 ps1).take n, 0)).1 = keptB ((ckL s S1 ps1).take n) (lossAt xs (1 - one)).1 (lossAt xs (1 - one)).2 := by
    simp only [cr1, crashB, Int.toNat_zero, List.take_zero, List.drop_zero, List.nil_append]
  by_cases hK : IsK s (cr1 (lossAt xs (1 - one)) ((ckL s S1 ps1).take n, 0)).1
  · rw [e2] at hK
    obtain ⟨g1, g2⟩ := kept_isK b1 hfit hn hK
    rw [g2] at e2
    refine .inr ⟨g1, ?_⟩
    match one, hone, c1, c2, e1, e2 with
    | 0, _, c1, c2, e1, e2 =>
      have := (best_i (s := s) c1 c2).2 (by rw [e2]; exact b1) (fun _ => by rw [e1, e2, a2, b2]; exact hlt)
      rw [this, e2, b2, b3]; rfl
    | 1, _, c1, c2, e1, e2 =>
      have := (best_i (s := s) c2 c1).1 (by rw [e2]; exact b1) (fun h => by have h2 := h.2; rw [e1, e2, a2, b2] at h2; omega)
      rw [this, e2, b2, b3]; rfl
  · left
    match one, hone, c1, c2, e1, hK with
    | 0, _, c1, c2, e1, hK =>
      have := (best_i (s := s) c1 c2).1 (by rw [e1]; exact a1) (fun h => hK h.1)
      rw [this, e1, a2, a3]; rfl
    | 1, _, c1, c2, e1, hK =>
      have := (best_i (s := s) c2 c1).2 (by rw [e1]; exact a1) (fun h => absurd h hK)
      rw [this, e1, a2, a3]; rfl
end Go.Proofs.Yteokhkoaieibmaa

/- What comes in, in the walks' words: shapes, states, blocks, losses, zones. -/
namespace Go.Proofs.Yteokhkoaieibmaa
open Go.RowKit Go.ChangeShapes Go.WideShapes
set_option linter.unusedVariables false
set_option maxRecDepth 4000

section
variable {H : Type} {enc : TypeId × Value → H} {W : World}
abbrev Came (enc : TypeId × Value → H) (W : World) (t : TypeId) (v : Value) (d : DataW H) (p : List MemPlace) : Prop := DataW.Trod enc Try.prog W 0 (fun _ => true) true t v d p
def F64 (z : Int) : Prop := -9223372036854775808 ≤ z ∧ z < 9223372036854775808
theorem int_of {v : Value} {n : Nat} {y : DataW H × List MemPlace} (h : DataW.trod enc Try.prog W 0 (fun _ => true) true n 3 [v] = some y) : ∃ z, v = .int .i64 z ∧ F64 z := by
  obtain ⟨z, hv, _, hw⟩ := DataW.trod_int Try.underlying3 h
  have := bounds_i64 hw
  simp only [List.cons.injEq, and_true] at hv
  exact ⟨z, hv, by unfold F64; omega⟩
theorem u8_of {v : Value} {n : Nat} {y : DataW H × List MemPlace} (h : DataW.trod enc Try.prog W 0 (fun _ => true) true n 5 [v] = some y) : ∃ z, v = .int .u8 z ∧ Fits8 z := by
  obtain ⟨z, hv, _, hw⟩ := DataW.trod_int Try.underlying5 h
  have := bounds_u8 hw
  simp only [List.cons.injEq, and_true] at hv
  exact ⟨z, hv, by unfold Fits8; omega⟩
theorem slice_form {t e : TypeId} {v : Value} {n : Nat} {y : DataW H × List MemPlace} (ht : Try.prog.underlying t = some (.slice e)) (h : DataW.trod enc Try.prog W 0 (fun _ => true) true n t [v] = some y) : ∃ a l c, v = .slice a l c := by
  rcases DataW.trod_slice ht h with ⟨hcs, _⟩ | ⟨a, l, c, _, _, _, _, hcs, _⟩
  · simp only [List.cons.injEq, and_true] at hcs; exact ⟨_, _, _, hcs⟩
  · simp only [List.cons.injEq, and_true] at hcs; exact ⟨_, _, _, hcs⟩
theorem ints_cells {k : IntKind} {a : Option Addr} {len cap : Nat} {t e : TypeId} {fuel : Nat} {x : DataW H × List MemPlace} (ht : Try.prog.underlying t = some (.slice e)) (he : Try.prog.underlying e = some (.int k)) (hc : Try.prog.cellsOf e = 1)
    (h : DataW.trod enc Try.prog W 0 (fun _ => true) true fuel t [.slice a len cap] = some x) :
    (a = none ∧ len = 0 ∧ cap = 0) ∨ ∃ (b off : Nat) (zs : List Int), (len = 0 ∨ a = some ⟨b, off, none⟩) ∧ a ≠ none ∧ len ≤ cap ∧ cap ≤ maxLen ∧ zs.length = cap ∧ (∀ z ∈ zs, (Lit.int k z).wf = true) ∧ ∀ i, i < len → W.cell? ⟨b, off + i, none⟩ = some (.int k (zs.getD i 0)) := by
  rcases open_ints ht he hc h with ⟨hcs, _⟩ | ⟨x, l, c, zs, hcs, _, hl, hm, hz, _, hcell, hwz⟩
  · simp at hcs
    obtain ⟨rfl, rfl, rfl⟩ := hcs
    exact .inl ⟨rfl, rfl, rfl⟩
  · simp at hcs
    obtain ⟨rfl, rfl, rfl⟩ := hcs
    right
    have hz' : zs.length = cap := by simpa using hz
    by_cases h0 : len = 0
    · exact ⟨0, 0, zs, .inl h0, by simp, hl, hm, hz', hwz, fun i hi => by omega⟩
    · obtain ⟨b, off, spot⟩ := x
      have hc0 := hcell 0 (by omega)
      have hs : spot = none := by simpa [Addr.add] using World.cell?_spot hc0
      subst hs
      refine ⟨b, off, zs, .inr rfl, by simp, hl, hm, hz', hwz, fun i hi => ?_⟩
      have := hcell i (by omega)
      rwa [Addr.add_mid] at this
theorem bytes_of {a : Option Addr} {len cap : Nat} {fuel : Nat} {x : DataW H × List MemPlace} (h : DataW.trod enc Try.prog W 0 (fun _ => true) true fuel 39 [.slice a len cap] = some x) :
    ∃ zs, BIn W a len zs ∧ len ≤ cap ∧ (a = none → len = 0 ∧ cap = 0) := by
  rcases ints_cells Try.underlying39 Try.underlying5 (by kernel_rfl) h with ⟨rfl, rfl, rfl⟩ | ⟨b, off, zs, ha, hn, hl, hm, hz, hwz, hcell⟩
  · exact ⟨[], bin_none _, Nat.le_refl _, fun _ => ⟨rfl, rfl⟩⟩
  · refine ⟨zs.take len, ⟨by simp [hz]; omega, Nat.le_trans hl hm, fun z hz' => ?_, ?_⟩, hl, fun h => absurd h hn⟩
    · have := bounds_u8 (hwz z (List.mem_of_mem_take hz'))
      unfold Fits8
      omega
    · rcases ha with ha | ha
      · exact .inl ha
      · exact .inr ⟨b, off, ha, fun i hi => by rw [hcell i hi]; simp [List.getD, hi]⟩
theorem list_of {α : Type} {n : Nat} {p : Nat → α → Prop} (h : ∀ i, i < n → ∃ x, p i x) : ∃ l : List α, l.length = n ∧ ∀ i x, l[i]? = some x → p i x := by
  induction n with
  | zero => exact ⟨[], rfl, fun i x hx => by simp at hx⟩
  | succ n ih =>
    obtain ⟨l, hl, hp⟩ := ih (fun i hi => h i (by omega))
    obtain ⟨x, hx⟩ := h n (by omega)
    refine ⟨l ++ [x], by simp [hl], fun i y hy => ?_⟩
    by_cases hi : i < l.length
    · rw [List.getElem?_append_left hi] at hy
      exact hp i y hy
    · have hi' : i = l.length := by
        have := (List.getElem?_eq_some_iff.1 hy).1
        simp at this
        omega
      subst hi'
      simp at hy
      subst hy
      rw [hl]; exact hx
/-- A slice that came in: the cells of its elements. -/
theorem rows_of {t e : TypeId} {sz : Nat} {a : Option Addr} {len cap fuel : Nat} {y : DataW H × List MemPlace} (ht : Try.prog.underlying t = some (.slice e)) (hc : Try.prog.cellsOf e = sz) (hs0 : 0 < sz) (h : DataW.trod enc Try.prog W 0 (fun _ => true) true fuel t [.slice a len cap] = some y) :
    (len ≤ cap ∧ cap ≤ maxLen ∧ (a = none → len = 0 ∧ cap = 0)) ∧ (len = 0 ∨ ∃ b off, a = some ⟨b, off, none⟩ ∧ ∀ i, i < len → ∃ cs, cs.length = sz ∧ (∀ j, j < sz → W.cell? ⟨b, off + i * sz + j, none⟩ = cs[j]?) ∧ ∃ fuel' y', DataW.trod enc Try.prog W 0 (fun _ => true) true fuel' e cs = some y') := by
  rcases Deep.open_slice ht h with ⟨hcs, _⟩ | ⟨x, l, c, m, n, D, Pl, hcs, _, hl, hm, hmm, _, hx⟩
  · simp at hcs
    obtain ⟨rfl, rfl, rfl⟩ := hcs
    exact ⟨⟨Nat.le_refl _, Nat.zero_le _, fun _ => ⟨rfl, rfl⟩⟩, .inl rfl⟩
  · simp at hcs
    obtain ⟨rfl, rfl, rfl⟩ := hcs
    simp only [if_true] at hmm
    subst hmm
    rw [hc] at hx
    refine ⟨⟨hl, hm, fun h => by cases h⟩, ?_⟩
    by_cases h0 : len = 0
    · exact .inl h0
    · obtain ⟨b, off, spot⟩ := x
      obtain ⟨cs, h1, _⟩ := hx 0 (by omega)
      obtain ⟨_, hlen, hcell⟩ := World.cells?_some h1
      have hc0 := hcell 0 (by omega)
      rw [List.getElem?_eq_getElem (by omega)] at hc0
      have hs : spot = none := by simpa [Addr.add] using World.cell?_spot hc0
      subst hs
      refine .inr ⟨b, off, rfl, fun i hi => ?_⟩
      obtain ⟨cs', h1', h2'⟩ := hx i (by omega)
      obtain ⟨_, hlen', hcell'⟩ := World.cells?_some h1'
      refine ⟨cs', hlen', fun j hj => ?_, _, _, h2'⟩
      have := hcell' j (by omega)
      rw [Addr.add_mid, Addr.add_mid] at this
      exact this
def ShF (s : Sh) : Prop := F64 s.z ∧ F64 s.zb ∧ F64 s.b ∧ F64 s.r
theorem open_shape {r : Reach} {b0 : Nat} {v : Value} {d : DataW H} {p : List MemPlace} (hv : Value.okWide Try.prog W r b0 23 v) (h : Came enc W 23 v d p) : ∃ s : Sh, v = .agg (shL s).toArray ∧ ShF s := by
  obtain ⟨cs, rfl, hsz⟩ := okWide_struct Try.underlying23 hv
  obtain ⟨fuel, hf⟩ := h
  have hf' : DataW.trod enc Try.prog W 0 (fun _ => true) true fuel 23 cs.toList = some (d, p) := by simpa [Value.cells] using hf
  obtain ⟨xs, m, _, _, hlen, hxl, hf⟩ := DataW.trod_struct Try.underlying23 hf'
  have hc4 : Try.prog.cellsOf 23 = 4 := by kernel_rfl
  rw [hc4] at hlen
  obtain ⟨L, rfl⟩ : ∃ L : List Value, cs = L.toArray := ⟨cs.toList, by simp⟩
  simp only at hlen hf
  match L, hlen, xs, hxl with
  | [v0, v1, v2, v3], _, [x0, x1, x2, x3], _ =>
    have h0 := hf 0 _ rfl
    have h1 := hf 1 _ rfl
    have h2 := hf 2 _ rfl
    have h3 := hf 3 _ rfl
    simp only [List.getElem?_cons_zero, List.getElem?_cons_succ] at h0 h1 h2 h3
    obtain ⟨z, rfl, f0⟩ := int_of h0
    obtain ⟨zb, rfl, f1⟩ := int_of h1
    obtain ⟨b, rfl, f2⟩ := int_of h2
    obtain ⟨r, rfl, f3⟩ := int_of h3
    exact ⟨⟨z, zb, b, r⟩, rfl, f0, f1, f2, f3⟩
theorem u32_of {v : Value} {n : Nat} {y : DataW H × List MemPlace} (h : DataW.trod enc Try.prog W 0 (fun _ => true) true n 81 [v] = some y) : ∃ z, v = .int .u32 z ∧ Fits32 z := by
  obtain ⟨z, hv, _, hw⟩ := DataW.trod_int Try.underlying81 h
  have := bounds_u32 hw
  simp only [List.cons.injEq, and_true] at hv
  exact ⟨z, hv, by unfold Fits32; omega⟩
theorem u64_of {v : Value} {n : Nat} {y : DataW H × List MemPlace} (h : DataW.trod enc Try.prog W 0 (fun _ => true) true n 24 [v] = some y) : ∃ z, v = .int .u64 z ∧ FitsU z := by
  obtain ⟨z, hv, _, hw⟩ := DataW.trod_int Try.underlying24 h
  have := bounds_u64 hw
  simp only [List.cons.injEq, and_true] at hv
  exact ⟨z, hv, by unfold FitsU; omega⟩
theorem addr_of {cs : List Value} {n : Nat} {y : DataW H × List MemPlace} (h : DataW.trod enc Try.prog W 0 (fun _ => true) true n 67 cs = some y) : ∃ s : Pr, cs = [.int .i64 s.1, .int .i64 s.2] ∧ FitsS s := by
  obtain ⟨xs, m, _, _, hlen, hxl, hf⟩ := DataW.trod_struct Try.underlying67 h
  have hc2 : Try.prog.cellsOf 67 = 2 := by kernel_rfl
  rw [hc2] at hlen
  match cs, hlen, xs, hxl with
  | [v0, v1], _, [x0, x1], _ =>
    have h0 := hf 0 _ rfl
    have h1 := hf 1 _ rfl
    simp only [List.getElem?_cons_zero, List.getElem?_cons_succ] at h0 h1
    obtain ⟨a, rfl, f0⟩ := int_of h0
    obtain ⟨b, rfl, f1⟩ := int_of h1
    exact ⟨(a, b), rfl, f0, f1⟩
theorem place_of {cs : List Value} {n : Nat} {y : DataW H × List MemPlace} (h : DataW.trod enc Try.prog W 0 (fun _ => true) true n 83 cs = some y) : ∃ p : Pl, cs = plL p ∧ FitsP p := by
  obtain ⟨xs, m, _, _, hlen, hxl, hf⟩ := DataW.trod_struct Try.underlying83 h
  have hc4 : Try.prog.cellsOf 83 = 4 := by kernel_rfl
  rw [hc4] at hlen
  match cs, hlen, xs, hxl with
  | [v0, v1, v2, v3], _, [x0, x1, x2], _ =>
    have h0 := hf 0 _ rfl
    have h1 := hf 1 _ rfl
    have h2 := hf 2 _ rfl
    simp only [List.getElem?_cons_zero, List.getElem?_cons_succ] at h0 h1 h2
    obtain ⟨a, rfl, f0⟩ := u32_of h0
    obtain ⟨b, rfl, f1⟩ := u64_of h1
    obtain ⟨s, hs, f2⟩ := addr_of (cs := [v2, v3]) h2
    simp only [List.cons.injEq, and_true] at hs
    obtain ⟨rfl, rfl⟩ := hs
    exact ⟨((a, b), s), rfl, ⟨f0, f1⟩, f2⟩
/-- Places that came in. -/
theorem places_of {a : Option Addr} {len cap fuel : Nat} {y : DataW H × List MemPlace} (h : DataW.trod enc Try.prog W 0 (fun _ => true) true fuel 25 [.slice a len cap] = some y) : ∃ ps, KIn W a len ps ∧ len ≤ cap ∧ (a = none → len = 0 ∧ cap = 0) := by
  obtain ⟨⟨h1, h2, h3⟩, h4⟩ := rows_of Try.underlying25 (sz := 4) (by kernel_rfl) (by decide) h
  rcases h4 with rfl | ⟨b, off, rfl, hc⟩
  · exact ⟨[], ⟨rfl, Nat.zero_le _, by simp, .inl rfl⟩, h1, h3⟩
  · obtain ⟨ps, hl, hp⟩ := list_of (n := len) (p := fun i (x : Pl) => (∀ (j : Nat) (v : Value), (plL x)[j]? = some v → W.cell? ⟨b, off + i * 4 + j, none⟩ = some v) ∧ FitsP x) (fun i hi => by
      obtain ⟨cs, e1, e2, f, y', e3⟩ := hc i hi
      obtain ⟨x, rfl, hf⟩ := place_of e3
      exact ⟨x, fun j v hv => by rw [e2 j (by have := (List.getElem?_eq_some_iff.1 hv).1; simpa [plL] using this)]; exact hv, hf⟩)
    refine ⟨ps, ⟨hl, Nat.le_trans h1 h2, fun x hx => ?_, .inr ⟨b, off, rfl, fun i x hx => (hp i x hx).1⟩⟩, h1, h3⟩
    obtain ⟨i, hi⟩ := List.getElem?_of_mem hx
    exact (hp i x hi).2
theorem state_of {cs : List Value} {n : Nat} {y : DataW H × List MemPlace} (h : DataW.trod enc Try.prog W 0 (fun _ => true) true n 27 cs = some y) : ∃ (seq : Int) (A : Option Addr) (N C : Nat) (xs : List Pl), cs = [.int .u64 seq, .slice A N C] ∧ FitsU seq ∧ KIn W A N xs ∧ N ≤ C ∧ (A = none → N = 0 ∧ C = 0) := by
  obtain ⟨xs, m, _, _, hlen, hxl, hf⟩ := DataW.trod_struct Try.underlying27 h
  have hc2 : Try.prog.cellsOf 27 = 2 := by kernel_rfl
  rw [hc2] at hlen
  match cs, hlen, xs, hxl with
  | [v0, v1], _, [x0, x1], _ =>
    have h0 := hf 0 _ rfl
    have h1 := hf 1 _ rfl
    simp only [List.getElem?_cons_zero, List.getElem?_cons_succ] at h0 h1
    obtain ⟨seq, rfl, f0⟩ := u64_of h0
    obtain ⟨A, N, C, rfl⟩ := slice_form Try.underlying25 h1
    obtain ⟨ps, k1, k2, k3⟩ := places_of h1
    exact ⟨seq, A, N, C, ps, rfl, f0, k1, k2, k3⟩
theorem open_state {r : Reach} {b0 : Nat} {v : Value} {d : DataW H} {p : List MemPlace} (hv : Value.okWide Try.prog W r b0 27 v) (h : Came enc W 27 v d p) : ∃ (seq : Int) (A : Option Addr) (N C : Nat) (xs : List Pl), v = .agg #[.int .u64 seq, .slice A N C] ∧ FitsU seq ∧ KIn W A N xs ∧ N ≤ C ∧ (A = none → N = 0 ∧ C = 0) := by
  obtain ⟨cs, rfl, hsz⟩ := okWide_struct Try.underlying27 hv
  obtain ⟨fuel, hf⟩ := h
  have hf' : DataW.trod enc Try.prog W 0 (fun _ => true) true fuel 27 cs.toList = some (d, p) := by simpa [Value.cells] using hf
  obtain ⟨seq, A, N, C, xs, h1, h2⟩ := state_of hf'
  obtain ⟨L, rfl⟩ : ∃ L : List Value, cs = L.toArray := ⟨cs.toList, by simp⟩
  simp only at h1
  subst h1
  exact ⟨seq, A, N, C, xs, rfl, h2⟩
def BkRaw (W : World) (v : Value) (D : List Int) : Prop := ∃ A L C, v = .slice A L C ∧ BIn W A L D ∧ (A = none → L = 0 ∧ C = 0) ∧ L ≤ C
def BsRaw (W : World) (a : Option Addr) (n : Nat) (bs : List (List Int)) : Prop :=
  bs.length = n ∧ n ≤ maxLen ∧ (n = 0 ∨ ∃ b off, a = some ⟨b, off, none⟩ ∧ ∀ (i : Nat) (D : List Int), bs[i]? = some D → ∃ v, W.cell? ⟨b, off + i, none⟩ = some v ∧ BkRaw W v D)
theorem blocks_of {a : Option Addr} {len cap fuel : Nat} {y : DataW H × List MemPlace} (h : DataW.trod enc Try.prog W 0 (fun _ => true) true fuel 28 [.slice a len cap] = some y) : ∃ bs, BsRaw W a len bs := by
  obtain ⟨⟨h1, h2, h3⟩, h4⟩ := rows_of Try.underlying28 (sz := 1) (by kernel_rfl) (by decide) h
  rcases h4 with rfl | ⟨b, off, rfl, hc⟩
  · exact ⟨[], rfl, Nat.zero_le _, .inl rfl⟩
  · obtain ⟨bs, hl, hp⟩ := list_of (n := len) (p := fun i (D : List Int) => ∃ v, W.cell? ⟨b, off + i, none⟩ = some v ∧ BkRaw W v D) (fun i hi => by
      obtain ⟨cs, e1, e2, f, y', e3⟩ := hc i hi
      match cs, e1 with
      | [v], _ =>
        obtain ⟨A, L, C, rfl⟩ := slice_form Try.underlying39 e3
        obtain ⟨D, hD, hLC, hDn⟩ := bytes_of e3
        refine ⟨D, .slice A L C, ?_, A, L, C, rfl, hD, hDn, hLC⟩
        have := e2 0 (by decide)
        simpa using this)
    exact ⟨bs, hl, Nat.le_trans h1 h2, .inr ⟨b, off, rfl, fun i D hi => hp i D hi⟩⟩
/-- States that came in. -/
abbrev St := Int × List Pl
def StsIn (W : World) (a : Option Addr) (n : Nat) (l : List St) : Prop :=
  l.length = n ∧ n ≤ maxLen ∧ (n = 0 ∨ ∃ b off, a = some ⟨b, off, none⟩ ∧ ∀ (i : Nat) (x : St), l[i]? = some x → ∃ A N C, W.cell? ⟨b, off + i * 2, none⟩ = some (.int .u64 x.1) ∧ W.cell? ⟨b, off + i * 2 + 1, none⟩ = some (.slice A N C) ∧ FitsU x.1 ∧ KIn W A N x.2 ∧ N ≤ C)
theorem open_states {a : Option Addr} {len cap : Nat} {d : DataW H} {p : List MemPlace} (h : Came enc W 72 (.slice a len cap) d p) : ∃ l, StsIn W a len l := by
  obtain ⟨fuel, hf⟩ := h
  have hf' : DataW.trod enc Try.prog W 0 (fun _ => true) true fuel 72 [.slice a len cap] = some (d, p) := by simpa [Value.cells] using hf
  obtain ⟨⟨h1, h2, h3⟩, h4⟩ := rows_of Try.underlying72 (sz := 2) (by kernel_rfl) (by decide) hf'
  rcases h4 with rfl | ⟨b, off, rfl, hc⟩
  · exact ⟨[], rfl, Nat.zero_le _, .inl rfl⟩
  · obtain ⟨l, hl, hp⟩ := list_of (n := len) (p := fun i (x : St) => ∃ A N C, W.cell? ⟨b, off + i * 2, none⟩ = some (.int .u64 x.1) ∧ W.cell? ⟨b, off + i * 2 + 1, none⟩ = some (.slice A N C) ∧ FitsU x.1 ∧ KIn W A N x.2 ∧ N ≤ C) (fun i hi => by
      obtain ⟨cs, e1, e2, f, y', e3⟩ := hc i hi
      obtain ⟨seq, A, N, C, xs, rfl, h1, h2, h3, _⟩ := state_of e3
      exact ⟨(seq, xs), A, N, C, e2 0 (by decide), e2 1 (by decide), h1, h2, h3⟩)
    exact ⟨l, hl, Nat.le_trans h1 h2, .inr ⟨b, off, rfl, hp⟩⟩
theorem loss_of {cs : List Value} {n : Nat} {y : DataW H × List MemPlace} (h : DataW.trod enc Try.prog W 0 (fun _ => true) true n 112 cs = some y) : ∃ k t, cs = [.int .i64 k, .int .i64 t] ∧ F64 k := by
  obtain ⟨xs, m, _, _, hlen, hxl, hf⟩ := DataW.trod_struct Try.underlying112 h
  have hc2 : Try.prog.cellsOf 112 = 2 := by kernel_rfl
  rw [hc2] at hlen
  match cs, hlen, xs, hxl with
  | [v0, v1], _, [x0, x1], _ =>
    have h0 := hf 0 _ rfl
    have h1 := hf 1 _ rfl
    simp only [List.getElem?_cons_zero, List.getElem?_cons_succ] at h0 h1
    obtain ⟨k, rfl, f0⟩ := int_of h0
    obtain ⟨t, rfl, f1⟩ := int_of h1
    exact ⟨k, t, rfl, f0⟩
theorem losses_of {a : Option Addr} {len cap fuel : Nat} {y : DataW H × List MemPlace} (h : DataW.trod enc Try.prog W 0 (fun _ => true) true fuel 63 [.slice a len cap] = some y) : ∃ ls, LsIn W a len ls := by
  obtain ⟨⟨h1, h2, h3⟩, h4⟩ := rows_of Try.underlying63 (sz := 2) (by kernel_rfl) (by decide) h
  rcases h4 with rfl | ⟨b, off, rfl, hc⟩
  · exact ⟨[], rfl, Nat.zero_le _, by simp, .inl rfl⟩
  · obtain ⟨ls, hl, hp⟩ := list_of (n := len) (p := fun i (k : Int × Int) => (W.cell? ⟨b, off + i * 2, none⟩ = some (.int .i64 k.1) ∧ W.cell? ⟨b, off + i * 2 + 1, none⟩ = some (.int .i64 k.2)) ∧ F64 k.1) (fun i hi => by
      obtain ⟨cs, e1, e2, f, y', e3⟩ := hc i hi
      obtain ⟨k, t, rfl, hk⟩ := loss_of e3
      exact ⟨(k, t), ⟨e2 0 (by decide), e2 1 (by decide)⟩, hk⟩)
    refine ⟨ls, hl, Nat.le_trans h1 h2, fun k hk => ?_, .inr ⟨b, off, rfl, fun i k hi => (hp i k hi).1⟩⟩
    obtain ⟨i, hi⟩ := List.getElem?_of_mem hk
    exact (hp i k hi).2.2
theorem open_losses {a : Option Addr} {len cap : Nat} {d : DataW H} {p : List MemPlace} (h : Came enc W 63 (.slice a len cap) d p) : ∃ ls, LsIn W a len ls := by
  obtain ⟨fuel, hf⟩ := h
  have hf' : DataW.trod enc Try.prog W 0 (fun _ => true) true fuel 63 [.slice a len cap] = some (d, p) := by simpa [Value.cells] using hf
  exact losses_of hf'
def ZsRaw (W : World) (a : Option Addr) (n : Nat) (zs : List Zn) : Prop :=
  zs.length = n ∧ n ≤ maxLen ∧ (n = 0 ∨ ∃ b off, a = some ⟨b, off, none⟩ ∧ ∀ (i : Nat) (z : Zn), zs[i]? = some z → ∃ A L C, W.cell? ⟨b, off + i * 2, none⟩ = some (.slice A L C) ∧ W.cell? ⟨b, off + i * 2 + 1, none⟩ = some (.int .i64 z.2) ∧ BsRaw W A L z.1)
def ZnF (zs : List Zn) : Prop := ∀ z ∈ zs, F64 z.2
theorem zone_of {cs : List Value} {n : Nat} {y : DataW H × List MemPlace} (h : DataW.trod enc Try.prog W 0 (fun _ => true) true n 76 cs = some y) : ∃ (z : Zn) (A : Option Addr) (L C : Nat), cs = [.slice A L C, .int .i64 z.2] ∧ BsRaw W A L z.1 ∧ F64 z.2 := by
  obtain ⟨xs, m, _, _, hlen, hxl, hf⟩ := DataW.trod_struct Try.underlying76 h
  have hc2 : Try.prog.cellsOf 76 = 2 := by kernel_rfl
  rw [hc2] at hlen
  match cs, hlen, xs, hxl with
  | [v0, v1], _, [x0, x1], _ =>
    have h0 := hf 0 _ rfl
    have h1 := hf 1 _ rfl
    simp only [List.getElem?_cons_zero, List.getElem?_cons_succ] at h0 h1
    obtain ⟨A, L, C, rfl⟩ := slice_form Try.underlying28 h0
    obtain ⟨bs, hbs⟩ := blocks_of h0
    obtain ⟨t, rfl, f1⟩ := int_of h1
    exact ⟨(bs, t), A, L, C, rfl, hbs, f1⟩
theorem open_zones {a : Option Addr} {len cap : Nat} {d : DataW H} {p : List MemPlace} (h : Came enc W 47 (.slice a len cap) d p) : ∃ zs, ZsRaw W a len zs ∧ ZnF zs := by
  obtain ⟨fuel, hf⟩ := h
  have hf' : DataW.trod enc Try.prog W 0 (fun _ => true) true fuel 47 [.slice a len cap] = some (d, p) := by simpa [Value.cells] using hf
  obtain ⟨⟨h1, h2, h3⟩, h4⟩ := rows_of Try.underlying47 (sz := 2) (by kernel_rfl) (by decide) hf'
  rcases h4 with rfl | ⟨b, off, rfl, hc⟩
  · exact ⟨[], ⟨rfl, Nat.zero_le _, .inl rfl⟩, fun z h => by simp at h⟩
  · obtain ⟨zs, hl, hp⟩ := list_of (n := len) (p := fun i (z : Zn) => (∃ A L C, W.cell? ⟨b, off + i * 2, none⟩ = some (.slice A L C) ∧ W.cell? ⟨b, off + i * 2 + 1, none⟩ = some (.int .i64 z.2) ∧ BsRaw W A L z.1) ∧ F64 z.2) (fun i hi => by
      obtain ⟨cs, e1, e2, f, y', e3⟩ := hc i hi
      obtain ⟨z, A, L, C, rfl, hb, hF⟩ := zone_of e3
      exact ⟨z, ⟨A, L, C, e2 0 (by decide), e2 1 (by decide), hb⟩, hF⟩)
    refine ⟨zs, ⟨hl, Nat.le_trans h1 h2, .inr ⟨b, off, rfl, fun i z hi => (hp i z hi).1⟩⟩, fun z hz => ?_⟩
    obtain ⟨i, hi⟩ := List.getElem?_of_mem hz
    exact (hp i z hi).2
end
end Go.Proofs.Yteokhkoaieibmaa
