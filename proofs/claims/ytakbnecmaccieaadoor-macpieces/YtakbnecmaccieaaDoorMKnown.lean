/- What one call of known (of the statements' own) does. -/
import Derived.Test.YtakbnecmaccieaaDoorJefe
import Derived.Test.YtakbnecmaccieaaDoorOfOf
import Derived.Test.YtakbnecmaccieaaDoorSameOf
namespace Go.Proofs.YtakbnecmaccieaaDoor
open Go.RowKit
set_option linter.unusedVariables false

theorem bin_none (w : World) : BIn w none 0 [] := ⟨rfl, Nat.zero_le _, by simp, .inl rfl⟩
theorem new_bin {w : World} {k n : Nat} {L : List Int} {C : Array Value} {fr : Nat × Nat} (hk : w.heap.size = k) (hC : C = (u8s L).toArray) (hn : L.length = n) (hf : ∀ z ∈ L, Fits8 z) (hm : n ≤ maxLen) :
    BIn (w.alloc (.cells C 5 fr)) (some ⟨k, 0, none⟩) n L := by
  subst hk; subst hC; subst hn
  refine ⟨rfl, hm, hf, .inr ⟨_, 0, rfl, fun i hi => ?_⟩⟩
  rw [Nat.zero_add, World.cell?_alloc_mark]
  simp [u8s, List.getD, hi]
theorem BIn.alloc {w : World} {a : Option Addr} {len : Nat} {zs : List Int} (h : BIn w a len zs) (o : Obj) : BIn (w.alloc o) a len zs := h.below ((Below.refl _ _).alloc (Nat.le_refl _) o)
/-- One list, handed on as the only piece. -/
theorem one_ps {w : World} {k : Nat} {a : Option Addr} {n c : Nat} {zs : List Int} {t : TypeId} (hk : w.heap.size = k) (h : BIn w a n zs) (hc : n ≤ c) (hnil : a = none → n = 0 ∧ c = 0) :
    PsIn (w.alloc (.cells #[.slice a n c] t)) (some ⟨k, 0, none⟩) 1 (fun _ => zs) := by
  subst hk
  refine .inr ⟨_, 0, rfl, fun r hr => ?_⟩
  obtain rfl : r = 0 := by omega
  exact ⟨a, n, c, by rw [Nat.add_zero, World.cell?_alloc_mark]; rfl, h.alloc _, hc, hnil⟩
theorem jf_fits : (∀ z ∈ jfKey, Fits8 z) ∧ (∀ z ∈ jfT1, Fits8 z) ∧ (∀ z ∈ jfT2, Fits8 z) := by
  refine ⟨?_, ?_, ?_⟩ <;> intro z hz <;> simp only [jfKey, jfT1, jfT2, List.mem_cons, List.not_mem_nil, or_false] at hz <;> unfold Fits8 <;> omega
def jfP (r : Nat) : List Int := if r = 0 then jfT1 else jfT2
theorem jf_le : 0 + (u8s jfoD).toArray.size ≤ (u8s (List.replicate 32 0)).length := by decide
theorem jf_info : (Tryd.prog.info? 25).map (·.size) = some (u8s jfoD).toArray.size := Tryd.info_digest

set_option maxHeartbeats 1000000 in
theorem mknown_any (w : World) (hG : GIn w) :
    Calls Tryd.prog 8 #[] w fun e w' => e = .returned (.bool true) ∧ Below w.heap.size w w' := by
  have kc := fun (w : World) (C : Array Value) (n c : Nat) => Lib.run_convert_bytes_const (P := Tryd.prog) w 22 5 C n c Tryd.underlying22 Tryd.underlying5
  have H : Hid (GIn w) := hG
  clear hG
  go_enter Tryd.func8, Tryd.ntmps8
  have kc0 := kc w
  have kc1 := fun o => kc (w.alloc o)
  have kc2 := fun o o' => kc ((w.alloc o).alloc o')
  simp only [World.size_alloc] at kc1 kc2
  go_wp2_with fail
  clear kc kc0 kc1 kc2
  generalize hV : World.alloc _ _ = V
  obtain ⟨q, hq⟩ : ∃ q, q = w.heap.size := ⟨_, rfl⟩
  have pv : GIn V ∧ BIn V (some ⟨q, 0, none⟩) 4 jfKey ∧ PsIn V (some ⟨q + 1 + 1 + 1, 0, none⟩) 2 jfP ∧ Below q w V := by
    rw [← hV, hq]
    refine ⟨(((H.out.alloc _).alloc _).alloc _).alloc _, (((new_bin rfl rfl rfl jf_fits.1 (by decide)).alloc _).alloc _).alloc _, .inr ⟨_, 0, rfl, fun r hr => ?_⟩, ((((Below.refl _ _).alloc (by omega) _).alloc (by simp) _).alloc (by simp; omega) _).alloc (by simp; omega) _⟩
    match r, hr with
    | 0, _ => exact ⟨some ⟨w.heap.size + 1, 0, none⟩, 16, 16, by rw [show w.heap.size + 1 + 1 + 1 = (((w.alloc _).alloc _).alloc _).heap.size from by simp, World.cell?_alloc_mark]; rfl, ((new_bin (by simp) rfl rfl jf_fits.2.1 (by decide)).alloc _).alloc _, by omega, fun h => by cases h⟩
    | 1, _ => exact ⟨some ⟨w.heap.size + 1 + 1, 0, none⟩, 12, 12, by rw [show w.heap.size + 1 + 1 + 1 = (((w.alloc _).alloc _).alloc _).heap.size from by simp, World.cell?_alloc_mark]; rfl, (new_bin (by simp) rfl rfl jf_fits.2.2 (by decide)).alloc _, by omega, fun h => by cases h⟩
  rw [← hq]
  have HQ : Hid (q = w.heap.size ∧ 1 < q) := ⟨hq, by have := H.out.lt; omega⟩
  clear hV hq
  obtain ⟨p0, p1, p2, p3⟩ := pv
  have hj : joinN jfP 2 = jfT := by kernel_rfl
  have hpl : ∀ r, r < 2 → (jfP r).length ≤ 1000000 := fun r hr => by
    match r, hr with
    | 0, _ => decide
    | 1, _ => decide
  refine (of_of (some ⟨q, 0, none⟩) 4 4 jfKey (some ⟨q + 1 + 1 + 1, 0, none⟩) 2 2 jfP V p0 p1 (by omega) (by omega) p2 (by omega) hpl).mono ?_
  rw [hj, jf_of]
  rintro e w1 ⟨rfl, b1⟩
  have bw : Below q w w1 := p3.trans (b1.mono (by have := p3.size; have := HQ.out; omega))
  clear p0 p1 p2 p3 b1 hj hpl
  go_upto_region 2 with (refine wpList_store_mid rfl 25 (.tmp 1) (.tmp 9) rfl w1.heap.size 0 (u8s jfoD).toArray rfl rfl ((Blk.new' (L := u8s (List.replicate 32 0)) rfl (by kernel_rfl)).there 0 _ jf_le) jf_info (all_oneCell_toArray (u8s_one _)) ?_)
  generalize hU : World.setCells _ _ _ _ = U
  have pu : Blk U w1.heap.size (u8s jfoD) 25 ∧ Below q w U := by
    rw [← hU]
    have := bw.size
    have := HQ.out
    exact ⟨(Blk.new' (L := u8s (List.replicate 32 0)) rfl (by kernel_rfl)).setAll (by decide), below_setCells (by omega) _ _ _ (bw.alloc (by omega) _)⟩
  obtain ⟨m, hm⟩ : ∃ m, m = w1.heap.size := ⟨_, rfl⟩
  rw [← hm] at pu ⊢
  obtain ⟨pd, pb⟩ := pu
  have c0 : U.cell? ⟨m, 0, none⟩ = some (.int .u8 91) := pd.cell 0
  have c1 : U.cell? ⟨m, 1, none⟩ = some (.int .u8 220) := pd.cell 1
  have c2 : U.cell? ⟨m, 30, none⟩ = some (.int .u8 56) := pd.cell 30
  have c3 : U.cell? ⟨m, 31, none⟩ = some (.int .u8 67) := pd.cell 31
  have S1 := same_of none 0 0 [] none 0 0 [] U (bin_none _) (bin_none _) (by omega) (by omega)
  have S2 := same_of (some ⟨U.heap.size, 0, none⟩) 1 1 [1] none 0 0 [] (U.alloc (.cells #[.int .u8 1] 5)) (new_bin rfl rfl rfl (by simp [Fits8]) (by unfold maxLen; omega)) (bin_none _) (by omega) (by omega)
  have d1 : decide (([] : List Int) = []) = true := rfl
  have d2 : decide (([1] : List Int) = []) = false := rfl
  rw [d1] at S1
  rw [d2] at S2
  have hs := pb.size
  clear hU hm bw pd d1 d2
  go_wp2_with fail
  refine S1.mono ?_
  rintro e w2 ⟨rfl, rfl⟩
  go_wp2_with fail
  refine S2.mono ?_
  rintro e w3 ⟨rfl, rfl⟩
  go_wp2
  go_ret
  exact ⟨rfl, by rw [← HQ.out.1]; exact pb.alloc (by have := HQ.out; omega) _⟩
end Go.Proofs.YtakbnecmaccieaaDoor
