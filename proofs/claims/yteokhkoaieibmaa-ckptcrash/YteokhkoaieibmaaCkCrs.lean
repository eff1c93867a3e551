/- A crash while a checkpoint is written: what the device holds on the way, and what Load tells then. -/
import Derived.Test.YteokhkoaieibmaaCkTurn
import Derived.Test.YteokhkoaieibmaaCkCr
namespace Go.Proofs.Yteokhkoaieibmaa
open Go.RowKit Go.Shelf
set_option linter.unusedVariables false
set_option maxRecDepth 4000

def CrB (V : World) (s : Sh) (p : Nat) (zs : List Zn) (wr : World) : Prop := ∃ O, Dv 104 O wr p s zs ∧ Wf s zs ∧ (∀ x, O x → V.heap.size ≤ x ∧ x < wr.heap.size) ∧ Below V.heap.size V wr
def CrA (V : World) (s : Sh) (p : Nat) (zs : List Zn) (ls : List (List Int)) (i : Nat) (av : Option Addr) (nv cv : Nat) (k : Nat) (wr : World) : Prop := ∃ O Q, Dv 104 O wr p s (zs.set i (ls.take k, 0)) ∧ (∀ x, O x → V.heap.size ≤ x ∧ x < wr.heap.size) ∧ Below V.heap.size V wr ∧ RowAt Q wr (.slice av nv cv) ls ∧ (∀ c, Q c → ¬ O c ∧ c < wr.heap.size)
theorem cr_start {V W : World} {s : Sh} {p : Nat} (hr : RightS s) (hV : Below V.heap.size V W) (hd : Dv 104 (fun x => V.heap.size ≤ x) W p s (emptyZ s.z.toNat)) : CrB V s p (emptyZ s.z.toNat) W := ⟨_, hd.there, empty_wf hr, fun x hx => hx, hV⟩
theorem CrB.bel {V wr : World} {s : Sh} {p : Nat} {zs : List Zn} (h : CrB V s p zs wr) : Below V.heap.size V wr := by obtain ⟨_, _, _, _, h⟩ := h; exact h
theorem CrA.bel {V wr : World} {s : Sh} {p : Nat} {zs : List Zn} {ls : List (List Int)} {i : Nat} {av : Option Addr} {nv cv k : Nat} (h : CrA V s p zs ls i av nv cv k wr) : Below V.heap.size V wr := by obtain ⟨_, _, _, _, h, _⟩ := h; exact h
theorem cr_save {V W : World} {s : Sh} {p slot : Nat} {zs : List Zn} {S : Int} {A : Option Addr} {N C : Nat} {ps : List Pl} (h : CrB V s p zs W) (hs : slot < 2) (hF : FitsU S) (hk : KIn V A N ps) (hN : N ≤ C) :
    Calls Try.prog 24 #[.pointer (some ⟨p, 0, none⟩), .int .i64 (slot : Int), .agg #[.int .u64 S, .slice A N C]] W fun e W' => ∃ E, e = .returned (.int .u16 E) ∧ (E = 0 → ckE s ps = 0 ∧ CrB V s p (putZ zs slot (ckL s S ps)) W') ∧ Below V.heap.size V W' := by
  obtain ⟨O, hd, hw, hO, hb⟩ := h
  refine (ksave_of (slot : Int) S A N C ps hd hw hF (hk.below hb) hN).mono ?_
  rintro e W' ⟨rfl, O', hd', hO', ho⟩
  have hbV' : Below V.heap.size V W' := hb.trans (ho.below hb.size (fun x hx => (hO x hx).1))
  refine ⟨_, rfl, fun hE => ?_, hbV'⟩
  have hck : ckE s ps = 0 := by unfold svE at hE; rwa [if_pos (by omega)] at hE
  rw [(svZ_ok (zs := zs) (seq := S) hs hck).2] at hd'
  refine ⟨hck, _, hd'.there, wf_putZ hw slot hck, fun x hx => ⟨?_, hx.2⟩, hbV'⟩
  rcases hO' x hx.1 with h | h
  · exact (hO x h).1
  · have := hb.size; omega
theorem cr_reset {V W Z : World} {s : Sh} {p : Nat} {zs : List Zn} {ls : List (List Int)} (i : Nat) {av : Option Addr} {nv cv : Nat} (h : CrB V s p zs W) (hZ : Below W.heap.size W Z) (hr : RowAt (fun j => W.heap.size ≤ j) Z (.slice av nv cv) ls) :
    Calls Try.prog 30 #[.pointer (some ⟨p, 0, none⟩), .int .i64 (i : Int)] Z fun e w' => (∃ v, e = .returned v) ∧ CrA V s p zs ls i av nv cv 0 w' := by
  obtain ⟨O, hd, hw, hO, hb⟩ := h
  refine (reset_of (i : Int) (kdv_under hd hZ)).mono ?_
  rintro e w' ⟨rfl, hd', ho⟩
  rw [resetZ_in, ← List.take_zero (l := ls)] at hd'
  have hs := ho.size
  have hsz := hZ.size
  have hbZ : Below V.heap.size V Z := hb.trans (hZ.mono hb.size)
  have r1 : RowAt (fun j => W.heap.size ≤ j ∧ j < Z.heap.size) Z (.slice av nv cv) ls := hr.mono (fun c hc hlt => ⟨hc, hlt⟩)
  have r2 := r1.out ho (fun r e h => by obtain ⟨_, _, r2, _⟩ := r1; have h1 := r2 r e; have h2 := (hO r h).2; omega) (fun c _ hc _ h => by have h2 := (hO c h).2; omega)
  refine ⟨⟨_, rfl⟩, _, _, hd'.there, ?_, hbZ.trans (ho.below hbZ.size (fun x hx => (hO x hx).1)), r2, ?_⟩
  · intro x hx
    refine ⟨?_, hx.2⟩
    rcases hx.1 with h | h
    · exact (hO x h).1
    · have := hbZ.size; omega
  · intro c hc
    refine ⟨fun hx => ?_, by omega⟩
    rcases hx.1 with h | h
    · have := (hO c h).2; omega
    · omega
theorem cr_app {V wr : World} {s : Sh} {p i : Nat} {zs : List Zn} {ls : List (List Int)} {av : Option Addr} {nv cv k : Nat} (h : CrA V s p zs ls i av nv cv k wr) (hw : Wf s zs) (hi : i < zs.length) (hl : ∀ D ∈ ls, (D.length : Int) = s.b) (hz : (ls.length : Int) ≤ s.zb) (hsh : Short ls) (hk : k < ls.length) :
    ∃ b off A1 L1 C1, av = some ⟨b, off, none⟩ ∧ wr.cell? ⟨b, off + k, none⟩ = some (.slice A1 L1 C1) ∧ Calls Try.prog 31 #[.pointer (some ⟨p, 0, none⟩), .int .i64 (i : Int), .slice A1 L1 C1] wr fun e w' => (∃ v, e = .returned v) ∧ CrA V s p zs ls i av nv cv (k + 1) w' := by
  obtain ⟨O, Q, hd, hO, hb, row, hQ⟩ := h
  obtain ⟨D, hD⟩ : ∃ D, ls[k]? = some D := ⟨ls[k], by simp⟩
  obtain ⟨b', off, A1, L1, C1, hA, k1, k2, k3, _, k5⟩ := (row.bsin hsh).at hD
  refine ⟨b', off, A1, L1, C1, hA, k1, ?_⟩
  refine (append_of (i : Int) A1 L1 C1 D hd (wf_put hw i k hl hz) k2 k3 k5).mono ?_
  rintro e w' ⟨rfl, hd', ho⟩
  rw [app_next hi hD (hl D (List.mem_of_getElem? hD)) hz] at hd'
  have hs := ho.size
  have r2 := row.out ho (fun r e h => by obtain ⟨_, _, r2, _⟩ := row; exact (hQ r (r2 r e)).1 h) (fun c _ hc _ h => (hQ c hc).1 h)
  refine ⟨⟨_, rfl⟩, _, _, hd'.there, ?_, hb.trans (ho.below hb.size (fun x hx => (hO x hx).1)), r2, ?_⟩
  · intro x hx
    refine ⟨?_, hx.2⟩
    rcases hx.1 with h | h
    · exact (hO x h).1
    · have := hb.size; omega
  · intro c hc
    have := (hQ c hc).2
    refine ⟨fun hx => ?_, by omega⟩
    rcases hx.1 with h | h
    · exact (hQ c hc).1 h
    · omega
theorem cr_crash {V wr : World} {s : Sh} {p i : Nat} {zs : List Zn} {ls : List (List Int)} {av : Option Addr} {nv cv k : Nat} {a : Option Addr} {n c : Nat} {xs : List (Int × Int)} (h : CrA V s p zs ls i av nv cv k wr) (hw : Wf s zs) (hl : ∀ D ∈ ls, (D.length : Int) = s.b) (hz : (ls.length : Int) ≤ s.zb) (hx : LsIn V a n xs) :
    Calls Try.prog 32 #[.pointer (some ⟨p, 0, none⟩), .slice a n c] wr fun e w' => (∃ v, e = .returned v) ∧ CrB V s p (crashZ xs (zs.set i (ls.take k, 0))) w' := by
  obtain ⟨O, Q, hd, hO, hb, row, hQ⟩ := h
  have hwf := wf_put hw i k hl hz
  refine (crash_of a n c xs hd hwf (hx.below hb) (fun hn ad e hO' => ?_)).mono ?_
  · obtain ⟨b, off, e', hc⟩ := hx.2.2.2.resolve_left hn
    rw [e] at e'; cases e'
    have h1 : b < V.heap.size := old_block (hc 0 (xs[0]'(by have := hx.1; omega)) (by simp)).1
    have h2 : V.heap.size ≤ b := (hO _ hO').1
    omega
  rintro e w' ⟨hv, hd', ho⟩
  refine ⟨hv, _, hd'.there, hwf.crash xs, fun x hx => ⟨?_, hx.2⟩, hb.trans (ho.below hb.size (fun x hx => (hO x hx).1))⟩
  rcases hx.1 with h | h
  · exact (hO x h).1
  · have := hb.size; omega
theorem crash_at {xs : List (Int × Int)} {zs : List Zn} {j : Nat} {z : Zn} (h : zs[j]? = some z) : (crashZ xs zs)[j]? = some (cr1 (lossAt xs j) z) := by
  unfold crashZ
  rw [List.getElem?_mapIdx, h]
  rfl
theorem kept_nil (k t : Int) : keptB [] k t = [] := by simp [keptB]
theorem cr_best {s : Sh} {one n : Nat} {S0 S1 : Int} {ps0 ps1 : List Pl} (hone : one < 2) (hr : RightS s) (hF0 : FitsU S0) (hF1 : FitsU S1) (hn0 : ∀ x ∈ ps0, FitsN x.1) (hn1 : ∀ x ∈ ps1, FitsN x.1) (h0 : ckE s ps0 = 0) (h1 : ckE s ps1 = 0) (hlt : S0 < S1) (hn : n ≤ (ckL s S1 ps1).length) (xs : List (Int × Int)) :
    bestK s (crashZ xs ((putZ (emptyZ s.z.toNat) one (ckL s S0 ps0)).set (1 - one) ((ckL s S1 ps1).take n, 0))) 2 = (S0, ps0, (one : Int), 0) ∨ (n = (ckL s S1 ps1).length ∧ bestK s (crashZ xs ((putZ (emptyZ s.z.toNat) one (ckL s S0 ps0)).set (1 - one) ((ckL s S1 ps1).take n, 0))) 2 = (S1, ps1, ((1 - one : Nat) : Int), 0)) := by
  obtain ⟨a1, a2, a3⟩ := isK_enc hF0 hn0 h0
  obtain ⟨b1, b2, b3⟩ := isK_enc hF1 hn1 h1
  have hlen : 6 ≤ (emptyZ s.z.toNat).length := by have := hr.1; simp [emptyZ]; omega
  have hfit : ∀ b ∈ ckL s S1 ps1, ∀ z ∈ b, Fits8 z := by
    intro b hb
    obtain ⟨i, _, rfl⟩ := ckL_mem hb
    exact ckB_fits
  have z1 : ((putZ (emptyZ s.z.toNat) one (ckL s S0 ps0)).set (1 - one) ((ckL s S1 ps1).take n, 0))[one]? = some (ckL s S0 ps0, ((ckL s S0 ps0).length : Int)) := by
    rw [List.getElem?_set_ne (by omega)]
    exact putZ_at (by omega)
  have z2 : ((putZ (emptyZ s.z.toNat) one (ckL s S0 ps0)).set (1 - one) ((ckL s S1 ps1).take n, 0))[1 - one]? = some ((ckL s S1 ps1).take n, 0) := by
    rw [List.getElem?_set_self (by rw [putZ_len]; omega)]
  have c1 := crash_at (xs := xs) z1
  have c2 := crash_at (xs := xs) z2
  have e1 : (cr1 (lossAt xs one) (ckL s S0 ps0, ((ckL s S0 ps0).length : Int))).1 = ckL s S0 ps0 := by
    simp only [cr1, crashB, Int.toNat_natCast, List.take_length, List.drop_length, kept_nil, List.append_nil]
  have e2 : (cr1 (lossAt xs (1 - one)) ((ckL s S1 ps1).take n, 0)).1 = keptB ((ckL s S1 ps1).take n) (lossAt xs (1 - one)).1 (lossAt xs (1 - one)).2 := by
    simp only [cr1, crashB, Int.toNat_zero, List.take_zero, List.drop_zero, List.nil_append]
  by_cases hK : IsK s (cr1 (lossAt xs (1 - one)) ((ckL s S1 ps1).take n, 0)).1
  · rw [e2] at hK
    obtain ⟨g1, g2⟩ := kept_isK b1 hfit hn hK
    rw [g2] at e2
    refine .inr ⟨g1, ?_⟩
    match one, hone, c1, c2, e1, e2 with
    | 0, _, c1, c2, e1, e2 =>
      have := (best_i (s := s) c1 c2).2 (by rw [e2]; exact b1) (fun _ => by rw [e1, e2, a2, b2]; exact hlt)
      rw [this, e2, b2, b3]; rfl
    | 1, _, c1, c2, e1, e2 =>
      have := (best_i (s := s) c2 c1).1 (by rw [e2]; exact b1) (fun h => by have h2 := h.2; rw [e1, e2, a2, b2] at h2; omega)
      rw [this, e2, b2, b3]; rfl
  · left
    match one, hone, c1, c2, e1, hK with
    | 0, _, c1, c2, e1, hK =>
      have := (best_i (s := s) c1 c2).1 (by rw [e1]; exact a1) (fun h => hK h.1)
      rw [this, e1, a2, a3]; rfl
    | 1, _, c1, c2, e1, hK =>
      have := (best_i (s := s) c2 c1).2 (by rw [e1]; exact a1) (fun h => absurd h hK)
      rw [this, e1, a2, a3]; rfl
end Go.Proofs.Yteokhkoaieibmaa
