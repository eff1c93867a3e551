/- P53 -/
import Derived.Test.YtcdnjeiamihhbabGreatP52
set_option linter.unusedVariables false
set_option maxRecDepth 4000
namespace Go.Proofs.YtcdnjeiamihhbabGreat
open Go.RowKit
abbrev e0 : Zn := ([], 0)
def pC : Pt := ⟨1, 6, false, List.replicate 64 0⟩
theorem pC_fits : pC.Fits := ⟨by unfold Fits32 pC; simp, by unfold FitsU pC; simp, fun z hz => by have := List.eq_of_mem_replicate hz; subst this; unfold Fits8; omega⟩
theorem mK6 : mK s6 [] = 1 := by
 have hr : 0 < roomN s6 := by decide
 unfold mK
 exact manyN_end (k := 0) (by omega) (by simp) (.inl rfl)
theorem ck6 : ckE s6 [] = 0 := ckE_zero.2 ⟨⟨s6_right, fun i p q hp => by simp at hp, by simp⟩, by rw [mK6]; decide⟩
theorem st0_zs6 : ∃ K : List (List Int), (st0 s6).zs = [(K, (K.length : Int)), e0, e0, e0, e0, e0] ∧ K = ckL s6 0 [] ∧ K.length = 1 := by
 refine ⟨ckL s6 0 [], ?_, rfl, by rw [ckL_length, mK6]⟩
 show svZ s6 (emptyZ 6) 0 0 [] = _
 unfold svZ
 rw [if_pos (by unfold svE; rw [if_pos (by omega)]; exact ck6)]
 rfl
theorem app6 {zs : List Zn} {a b c d f : Zn} {bs : List (List Int)} {k : Int} {D : List Int} (hz : zs = [a, b, (bs, k), c, d, f]) (hb : bs.length < 8) (hD : D.length = 64) : appZ s6 zs 2 D = [a, b, (bs ++ [D], k), c, d, f] ∧ appA s6 zs 2 D = (2, (bs.length : Int)) := by
 subst hz
 have hok : appOk s6 [a, b, (bs, k), c, d, f] 2 D := ⟨by omega, by simp, by rw [hD]; rfl⟩
 have hnf : ¬ appFull s6 [a, b, (bs, k), c, d, f] 2 := by
  unfold appFull
  show ¬ (8 : Int) ≤ (bs.length : Int)
  omega
 unfold appZ appA
 rw [if_pos hok, if_neg hnf, if_pos hok, if_neg hnf]
 exact ⟨rfl, rfl⟩
theorem encB6 {seq : Int} {p : Pt} (hp : p.x = false) (hd : p.d.length = 64) : GoodR [itP p] 64 ∧ encB seq [itP p] 64 = encL seq [itP p] 64 ∧ (encB seq [itP p] 64).length = 64 := by
 have hg : GoodR [itP p] 64 := ⟨by simp, by show ((1 : Nat) : Int) ≤ roomI 64; decide, fun x hx => by
  rw [List.mem_singleton.1 hx]
  exact itP_right s6_right (.inr (by rw [hd]; rfl))⟩
 have he : encB seq [itP p] 64 = encL seq [itP p] 64 := by unfold encB; rw [if_pos hg]; rfl
 exact ⟨hg, he, by rw [he]; exact enc_length (by simp)⟩
theorem write6 {st : St} (hs : st.s = s6) {a b c d f : Zn} {bs : List (List Int)} {k : Int} (hz : st.zs = [a, b, (bs, k), c, d, f]) (hb : bs.length + 2 ≤ 8) {p : Pt} (hp : p.x = false) (hd : p.d.length = 64) :
  (writeM st 2 [p]).zs = [a, b, (bs ++ [encB (incU st.q) [itP p] 64] ++ [p.d], k), c, d, f] ∧ (writeM st 2 [p]).S = putS st.S (p.n, (2, (bs.length : Int) + 1)) ∧ (writeM st 2 [p]).q = incU st.q ∧ (writeM st 2 [p]).s = s6 ∧ (writeM st 2 [p]).L = if bs.length + 2 = 8 then turnZ st.L 2 2 3 else st.L := by
 have h1 := app6 (D := encB (incU st.q) [itP p] 64) hz (by omega) (encB6 hp hd).2.2
 have hr : recZ st 2 [p] = [a, b, (bs ++ [encB (incU st.q) [itP p] 64], k), c, d, f] := by
  unfold recZ
  rw [hs]
  exact h1.1
 have h2 := app6 (zs := recZ st 2 [p]) (D := p.d) hr (by simp; omega) hd
 have hw : wrY st 2 [p] [p].length = ([a, b, (bs ++ [encB (incU st.q) [itP p] 64] ++ [p.d], k), c, d, f], putS st.S (p.n, (2, (bs.length : Int) + 1))) := by
  show oneP st.s 2 (recZ st 2 [p], st.S) p = _
  unfold oneP
  rw [if_neg (by simp [hp]), hs]
  show (appZ s6 (recZ st 2 [p]) 2 p.d, putS st.S (p.n, appA s6 (recZ st 2 [p]) 2 p.d)) = _
  rw [h2.1, h2.2]
  simp
 refine ⟨by show (wrY st 2 [p] [p].length).1 = _; rw [hw], by show (wrY st 2 [p] [p].length).2 = _; rw [hw], rfl, hs, ?_⟩
 show fullL st.s (wrY st 2 [p] [p].length).1 st.L 2 = _
 rw [hw, hs]
 unfold fullL roomZ
 have e : (atZ [a, b, (bs ++ [encB (incU st.q) [itP p] 64] ++ [p.d], k), c, d, f] 2).1.length = bs.length + 2 := by
  show (bs ++ [encB (incU st.q) [itP p] 64] ++ [p.d]).length = _
  simp
 rw [e]
 show (if (8 : Int) - ((bs.length + 2 : Nat) : Int) = 0 then _ else _) = _
 by_cases h8 : bs.length + 2 = 8
 ·rw [if_pos (by omega), if_pos h8]
 ·rw [if_neg (by omega), if_neg h8]
theorem crashB0 (bs : List (List Int)) (dn : Nat) : crashB bs dn 0 0 = bs.take dn := by
 unfold crashB keptB
 cases (bs.drop dn)[(0 : Int).toNat]? <;> simp
/-- The first one. -/
theorem putA6 : ∃ (K : List (List Int)) (sA : St), K = ckL s6 0 [] ∧ K.length = 1 ∧ putM (st0 s6) [pA] = (0, sA) ∧ sA.zs = [(K, (K.length : Int)), e0, ([encB 1 [itP pA] 64, pA.d], 0), e0, e0, e0] ∧ sA.S = putS [] ((1, 5), (2, 1)) ∧ sA.q = 1 ∧ sA.s = s6 ∧ sA.L = [4, 4, 2, 1, 1, 1] := by
 obtain ⟨K, hz, hK, hK1⟩ := st0_zs6
 have hat : atZ (st0 s6).zs (2 : Nat) = ([], 0) := st0_at s6 (by omega)
 have hR : roomZ (st0 s6).s (st0 s6).zs (2 : Nat) = 8 := by unfold roomZ; rw [hat]; rfl
 have hL : (st0 s6).L = [4, 4, 1, 1, 1, 1] := by decide
 have hcur : curA [4, 4, 1, 1, 1, 1] = ((2 : Nat) : Int) ∧ curB [4, 4, 1, 1, 1, 1] = true ∧ curL [4, 4, 1, 1, 1, 1] = [4, 4, 2, 1, 1, 1] := by decide
 have hz1 : openZ (st0 s6).s (st0 s6).zs (needP pA) (st0 s6).L = (((2 : Nat) : Int), true, [4, 4, 2, 1, 1, 1]) := by
  rw [hL, openZ_done (by rw [hcur.1, hR]; rintro ⟨_, h⟩; unfold needP pA at h; simp at h), hcur.1, hcur.2.1, hcur.2.2]
 have hroom : (roomI (st0 s6).s.b).toNat = 2 := by decide
 have hf1 : frontN (st0 s6) (2 : Nat) [pA] = 1 := by unfold frontN; rw [hroom, hR]; rfl
 have hok1 : okP (st0 s6).s [pA] := fun p hp => by rw [List.mem_singleton.1 hp]; exact .inr (by show ((List.replicate 64 (0 : Int)).length : Int) = 64; simp)
 have h1 := putM_one hok1 hz1 hf1
 have hw := write6 (st := { st0 s6 with L := [4, 4, 2, 1, 1, 1] }) (p := pA) rfl (bs := []) (k := 0) hz (by simp) rfl (by simp [pA])
 refine ⟨K, _, hK, hK1, h1, hw.1, hw.2.1, hw.2.2.1, hw.2.2.2.1, ?_⟩
 rw [show (writeM { st0 s6 with L := [4, 4, 2, 1, 1, 1] } ((2 : Nat) : Int) [pA]).L = _ from hw.2.2.2.2]
 rfl
/-- And the second one, behind a flush. -/
theorem putC6 {K : List (List Int)} {sA : St} (hz : sA.zs = [(K, (K.length : Int)), e0, ([encB 1 [itP pA] 64, pA.d], 0), e0, e0, e0]) (hq : sA.q = 1) (hs : sA.s = s6) (hL : sA.L = [4, 4, 2, 1, 1, 1]) :
  ∃ sC, putM (flushM sA) [pC] = (0, sC) ∧ crashZ [] sC.zs = [(K, (K.length : Int)), e0, ([encB 1 [itP pA] 64, pA.d], 2), e0, e0, e0] ∧ sC.s = s6 := by
 have hfz : (flushM sA).zs = [(K, (K.length : Int)), e0, ([encB 1 [itP pA] 64, pA.d], 2), e0, e0, e0] := by
  show flushZ sA.zs = _
  rw [hz]
  rfl
 have hR : roomZ (flushM sA).s (flushM sA).zs (2 : Nat) = 6 := by
  unfold roomZ
  rw [hfz]
  show sA.s.zb - _ = 6
  rw [hs]
  rfl
 have hcur2 : curA [4, 4, 2, 1, 1, 1] = ((2 : Nat) : Int) ∧ curB [4, 4, 2, 1, 1, 1] = true ∧ curL [4, 4, 2, 1, 1, 1] = [4, 4, 2, 1, 1, 1] := by decide
 have hz2 : openZ (flushM sA).s (flushM sA).zs (needP pC) (flushM sA).L = (((2 : Nat) : Int), true, [4, 4, 2, 1, 1, 1]) := by
  rw [show (flushM sA).L = [4, 4, 2, 1, 1, 1] from hL, openZ_done (by rw [hcur2.1, hR]; rintro ⟨_, h⟩; unfold needP pC at h; simp at h), hcur2.1, hcur2.2.1, hcur2.2.2]
 have hf2 : frontN (flushM sA) (2 : Nat) [pC] = 1 := by unfold frontN; rw [hR, show (flushM sA).s = s6 from hs, show (roomI s6.b).toNat = 2 by decide]; rfl
 have hok2 : okP (flushM sA).s [pC] := fun p hp => by rw [List.mem_singleton.1 hp]; exact .inr (by rw [show (flushM sA).s = s6 from hs]; simp [pC]; rfl)
 have h2 := putM_one hok2 hz2 hf2
 have hw := write6 (st := { flushM sA with L := [4, 4, 2, 1, 1, 1] }) (p := pC) hs (bs := [encB 1 [itP pA] 64, pA.d]) (k := 2) hfz (by simp) rfl (by simp [pC])
 refine ⟨_, h2, ?_, hw.2.2.2.1⟩
 rw [show (writeM { flushM sA with L := [4, 4, 2, 1, 1, 1] } ((2 : Nat) : Int) [pC]).zs = _ from hw.1]
 show [cr1 (0, 0) (K, (K.length : Int)), cr1 (0, 0) e0, cr1 (0, 0) ([encB 1 [itP pA] 64, pA.d] ++ [_] ++ [pC.d], 2), cr1 (0, 0) e0, cr1 (0, 0) e0, cr1 (0, 0) e0] = _
 unfold cr1
 simp only [crashB0]
 simp
/-- What is found on the device. -/
theorem found6 {K : List (List Int)} (hK : K = ckL s6 0 []) (hK1 : K.length = 1) {zs : List Zn} (hz : zs = [(K, (K.length : Int)), e0, ([encB 1 [itP pA] 64, pA.d], 2), e0, e0, e0]) :
  bestK s6 zs 2 = (0, [], 0, 0) ∧ newTo zs 0 6 = [(1, 2, 0)] ∧ decX (elB zs 2 0) = [itP pA] ∧ blkZ zs (2, 1) = some pA.d := by
 obtain ⟨hg, he, hl⟩ := encB6 (seq := 1) (p := pA) rfl (by simp [pA])
 have hfi : (itP pA).Fits := itP_fits pA_fits (by simp [pA])
 obtain ⟨hR, hS, hX⟩ := isR_enc (seq := 1) (xs := [itP pA]) (block := 64) (by unfold FitsU; omega) (fun x hx => by rw [List.mem_singleton.1 hx]; exact hfi) hg
 rw [show (64 : Int).toNat = 64 from rfl, ← he] at hR hS hX
 have hdE : decE (encB 1 [itP pA] 64) = 0 := by unfold decE; rw [if_pos hR]
 have hdS : decS (encB 1 [itP pA] 64) = 1 := by unfold decS; rw [if_pos hR]; exact hS
 have hdX : decX (encB 1 [itP pA] 64) = [itP pA] := by unfold decX; rw [if_pos hR]; exact hX
 have hb0 : blkZ zs (2, 0) = some (encB 1 [itP pA] 64) := by rw [hz]; rfl
 have hb1 : blkZ zs (2, 1) = some pA.d := by rw [hz]; rfl
 have hrB : recB zs (2, ((0 : Nat) : Int)) = some (encB 1 [itP pA] 64) := by
  unfold recB
  rw [show ((2 : Int), ((0 : Nat) : Int)) = (2, 0) from rfl, hb0]
  simp only
  rw [if_pos hdE]
 have hel : elB zs 2 0 = encB 1 [itP pA] 64 := by unfold elB; rw [hrB]; rfl
 have hck : checkB (itP pA) pA.d = true := by
  unfold checkB itP
  rw [if_neg (by simp [pA])]
  simp
 have hre : recEnd zs 2 0 = some 2 := by
  unfold recEnd
  rw [hrB]
  show endM zs 2 (decX (encB 1 [itP pA] 64)) 1 = some 2
  rw [hdX, endM_data (i := 1) (b := pA.d) rfl hb1 hck]
  rfl
 have hsc : scanL zs 2 = [0] := by
  unfold scanL
  have e : (atZ zs 2).1.length = 1 + 1 := by rw [hz]; rfl
  rw [e, scanP_step hre]
  unfold scanP
  have hno : recEnd zs 2 2 = none := by
   cases h : recEnd zs 2 2 with
   | none => rfl
   | some j =>
    obtain ⟨_, _, _, _, h4⟩ := recEnd_some h
    rw [e] at h4
    omega
  show (0 : Nat) :: scanP zs 2 1 2 = [0]
  rw [scanP_end hno]
 have hno2 : ∀ k : Nat, 2 < k → k < 6 → scanL zs (k : Nat) = [] := by
  intro k h2 h6
  have e : (atZ zs (k : Nat)).1.length = 0 := by
   rw [hz]
   rcases (show k = 3 ∨ k = 4 ∨ k = 5 by omega) with rfl | rfl | rfl <;> rfl
  unfold scanL
  rw [e]
  rfl
 refine ⟨?_, ?_, by rw [hel]; exact hdX, hb1⟩
 ·have hKz : zs[0]? = some (K, (K.length : Int)) := by rw [hz]; rfl
  have hez : zs[1]? = some e0 := by rw [hz]; rfl
  obtain ⟨k1, k2, k3⟩ := isK_enc (s := s6) (seq := 0) (ps := []) (by unfold FitsU; omega) (by simp) ck6
  rw [← hK] at k1 k2 k3
  have h1 := best_yes (s := s6) hKz k1 (.inl (by show ¬ (142 : Int) = 0; omega))
  show bestStep s6 (bestK s6 zs 1) (zs.getD 1 ([], 0)).1 ((1 : Nat) : Int) = _
  have e1 : (zs.getD 1 ([], 0)).1 = [] := by rw [hz]; rfl
  rw [e1, h1, k2, k3]
  unfold bestStep
  rw [if_neg]
  ·rfl
  ·rintro ⟨⟨_, h⟩, _⟩
   have := congrArg List.length h
   rw [ckL_length] at this
   have h2 : mK s6 (allPs []) = 1 := mK6
   rw [h2] at this
   simp at this
 ·have n5 : newTo zs 0 6 = newTo zs 0 5 ++ newrZ zs 0 5 (scanL zs (5 : Nat)) := newTo_step (by omega)
  have n4 : newTo zs 0 5 = newTo zs 0 4 ++ newrZ zs 0 4 (scanL zs (4 : Nat)) := newTo_step (by omega)
  have n3 : newTo zs 0 4 = newTo zs 0 3 ++ newrZ zs 0 3 (scanL zs (3 : Nat)) := newTo_step (by omega)
  have n2 : newTo zs 0 3 = newTo zs 0 2 ++ newrZ zs 0 2 (scanL zs (2 : Nat)) := newTo_step (by omega)
  rw [n5, n4, n3, n2, newTo_two, hno2 5 (by omega) (by omega), hno2 4 (by omega) (by omega), hno2 3 (by omega) (by omega), show scanL zs ((2 : Nat) : Int) = [0] from hsc]
  unfold newrZ
  have e : decS (elB zs 2 0) = 1 := by
   rw [hel]; exact hdS
  simp [e]
/-- What is recovered. -/
theorem recov6 {K : List (List Int)} (hK : K = ckL s6 0 []) (hK1 : K.length = 1) {zs : List Zn} (hz : zs = [(K, (K.length : Int)), e0, ([encB 1 [itP pA] 64, pA.d], 2), e0, e0, e0]) {l : List Fo} (hl : (l.map foK).Perm (newTo zs (bestK s6 zs 2).1 zs.length)) :
  (bestK s6 zs 2).2.2.2 = 0 ∧ (markM (recS s6 zs l)).1 = 0 ∧ (memT (markM (recS s6 zs l)).2 (1, 5)).isSome = true ∧ memT (markM (recS s6 zs l)).2 (1, 6) = none ∧ Plc (markM (recS s6 zs l)).2.zs (markM (recS s6 zs l)).2.S ∧ (markM (recS s6 zs l)).2.q = 1 := by
 obtain ⟨hb, hn, hx, hd⟩ := found6 hK hK1 hz
 have hlen : zs.length = 6 := by rw [hz]; rfl
 rw [hb, hlen] at hl
 rw [show newTo zs (0, ([] : List Pl), (0 : Int), (0 : Int)).1 6 = [(1, 2, 0)] from hn] at hl
 obtain ⟨f, rfl, hf⟩ : ∃ f, l = [f] ∧ foK f = (1, 2, 0) := by
  have h1 := hl.length_eq
  rw [List.length_map] at h1
  match l, h1 with
  | [f], _ => exact ⟨f, rfl, by have := hl.mem_iff.1 (List.mem_singleton.2 rfl : foK f ∈ [foK f]); simpa using this⟩
 obtain ⟨fs, fa, fm, fc, fz, fb⟩ := f
 simp only [foK, Prod.mk.injEq] at hf
 obtain ⟨rfl, rfl, rfl⟩ := hf
 have hX : foX zs ⟨1, fa, fm, fc, 2, 0⟩ = [itP pA] := hx
 have hfo : folS (foX zs) 0 [] [⟨1, fa, fm, fc, 2, 0⟩] = putS [] ((1, 5), (2, 1)) := by
  rw [folS_next (show (1 : Int) ≠ 0 by decide) (show (1 : Int) = IntKind.u64.wrap (0 + 1) by rw [IntKind.wrap_u64]; decide)]
  show entS 2 [] 0 (foX zs ⟨1, fa, fm, fc, 2, 0⟩) = _
  rw [hX]
  rfl
 have hfp : FitsP ((1, 5), (2, 1)) := ⟨⟨by show Fits32 1; unfold Fits32; omega, by show FitsU 5; unfold FitsU; omega⟩, by show I64 2; unfold I64; omega, by show I64 1; unfold I64; omega⟩
 have hp1 : putS [] (((1, 5), (2, 1)) : Pl) = [((1, 5), (2, 1))] := by rfl
 have hst : recS s6 zs [⟨1, fa, fm, fc, 2, 0⟩] = onG2 s6 zs 1 0 [((1, 5), (2, 1))] (fullTo zs 6) := by
  unfold recS
  rw [hb, hlen]
  show onG2 s6 zs 1 0 (folS (foX zs) 0 (heldS zs []) [⟨1, fa, fm, fc, 2, 0⟩]) (fullTo zs 6) = _
  rw [show heldS zs [] = [] from rfl, hfo, hp1]
 have hS : (recS s6 zs [⟨1, fa, fm, fc, 2, 0⟩]).S = [((1, 5), (2, 1))] := by rw [hst]; rfl
 have hE : svE s6 1 [((1, 5), (2, 1))] = 0 := by
  unfold svE
  rw [if_pos (by omega)]
  refine ckE_zero.2 ⟨⟨s6_right, fun i p q h1 h2 => ?_, fun p hp => ?_⟩, ?_⟩
  ·rw [List.getElem?_eq_none (by simp)] at h2
   cases h2
  ·rw [List.mem_singleton.1 hp]
   unfold InSh s6
   simp
  ·have : mK s6 [((1, 5), (2, 1))] = 1 := by decide
   rw [this]
   decide
 have hso : (recS s6 zs [⟨1, fa, fm, fc, 2, 0⟩]).o = 0 := by rw [hst]; rfl
 have hss : (recS s6 zs [⟨1, fa, fm, fc, 2, 0⟩]).s = s6 := by rw [hst]; rfl
 have hsz : (recS s6 zs [⟨1, fa, fm, fc, 2, 0⟩]).zs = zs := by rw [hst]; rfl
 have hsq : (recS s6 zs [⟨1, fa, fm, fc, 2, 0⟩]).q = 1 := by rw [hst]; rfl
 have hm1 : (markM (recS s6 zs [⟨1, fa, fm, fc, 2, 0⟩])).1 = 0 := by
  show svE _ (1 - _) _ = 0
  rw [hso, hss, hS]
  exact hE
 have hmz : (markM (recS s6 zs [⟨1, fa, fm, fc, 2, 0⟩])).2.zs = [(K, (K.length : Int)), (ckL s6 1 [((1, 5), (2, 1))], ((ckL s6 1 [((1, 5), (2, 1))]).length : Int)), ([encB 1 [itP pA] 64, pA.d], 2), e0, e0, e0] := by
  show svZ _ _ (1 - _) _ _ = _
  rw [hso, hss, hS, hsz, hsq, show (1 : Int) - 0 = 1 from rfl]
  unfold svZ
  rw [if_pos hE, hz]
  rfl
 have hmS : (markM (recS s6 zs [⟨1, fa, fm, fc, 2, 0⟩])).2.S = [((1, 5), (2, 1))] := hS
 have hgd : Good [(((1, 5), (2, 1)) : Pl)] := by rw [← hp1]; exact good_nil.put hfp
 have hbk : blkZ (markM (recS s6 zs [⟨1, fa, fm, fc, 2, 0⟩])).2.zs (2, 1) = some pA.d := by rw [hmz]; rfl
 refine ⟨by rw [hb], hm1, ?_, ?_, ⟨by rw [hmS]; exact hgd, fun x hx => ?_⟩, hsq⟩
 ·unfold memT memS
  rw [hmS, show getS [(((1, 5), (2, 1)) : Pl)] (1, 5) = some (2, 1) by rfl]
  show (blkZ _ (2, 1)).isSome = true
  rw [hbk]
  rfl
 ·unfold memT memS
  rw [hmS, show getS [(((1, 5), (2, 1)) : Pl)] (1, 6) = none by rfl]
  rfl
 ·rw [hmS] at hx
  rw [List.mem_singleton.1 hx]
  show (blkZ _ (2, 1)).isSome = true
  rw [hbk]
  rfl
section
section
variable {W V V' : World} {k : Bs} {st st' : St} {c c' : Nat}
theorem Ky.putn (h : Ky W k st c V) (p : Pt) (hp : p.Fits) (hd : p.d = List.replicate 64 0) (hx : p.x = false) (hc : c + 1 < 100000) :
  Calls Tryz.prog 8 #[.pointer (some ⟨k.ps, 0, none⟩), .slice (some ⟨V.heap.size + 1, 0, none⟩) 1 1] ((V.alloc (.cells (madeCells #[.int .u8 0] 64) 5)).alloc (.cells #[.int .u32 p.t, .int .u64 p.b, .bool false, .slice (some ⟨V.heap.size, 0, none⟩) 64 64] 61)) fun e w' => e = .returned (.int .u16 (putM st [p]).1) ∧ Ky W k (putM st [p]).2 (c + 1) w' := by
 obtain ⟨D, h1, h2, h3⟩ := h
 have hmb := made_bytes 64 V
 have hbV : Below V.heap.size V ((V.alloc (.cells (madeCells #[.int .u8 0] 64) 5)).alloc (.cells #[.int .u32 p.t, .int .u64 p.b, .bool false, .slice (some ⟨V.heap.size, 0, none⟩) 64 64] 61)) := ((Below.refl _ _).alloc (Nat.le_refl _) _).alloc (by simp) _
 have hsz2 : ((V.alloc (.cells (madeCells #[.int .u8 0] 64) 5)).alloc (.cells #[.int .u32 p.t, .int .u64 p.b, .bool false, .slice (some ⟨V.heap.size, 0, none⟩) 64 64] 61)).heap.size = V.heap.size + 1 + 1 := by simp
 refine (sput_new h1 p (some ⟨V.heap.size, 0, none⟩) 64 64 hp (by omega) (fun h => by cases h) (g := V.heap.size + 1) (B := V.heap.size) hbV rfl (by rw [hx]; exact Blk.new' (by simp) rfl) (by omega) (by rw [hd]; exact blk_bin (hmb.alloc _) (by simp) (by rw [← hd]; exact hp.2.2) (by unfold maxLen; omega)) (fun _ y hy => by simp only [Option.map_some, Option.some.injEq] at hy; subst hy; exact ⟨Nat.le_refl _, by rw [hsz2]; omega⟩) hc).mono ?_
 rintro e w' ⟨rfl, sv⟩
 exact ⟨rfl, Ky.sv h1 h2 h3 sv⟩
theorem Ky.flush (h : Ky W k st c V) : Calls Tryz.prog 19 #[.pointer (some ⟨k.ps, 0, none⟩)] V fun e w' => (∃ v, e = .returned v) ∧ Ky W k (flushM st) c w' := by
 obtain ⟨D, h1, h2, h3⟩ := h
 exact (sflush_of h1).mono (fun e w' hh => ⟨hh.1, Ky.sv h1 h2 h3 hh.2⟩)
theorem Ky.crash (h : Ky W k st c V) : Calls Tryz.prog 17 #[.pointer (some ⟨k.pd, 0, none⟩), .slice none 0 0] V fun e w' => (∃ v, e = .returned v) ∧ Ky W k { st with zs := crashZ [] st.zs } c w' := by
 obtain ⟨D, h1, h2, h3⟩ := h
 exact (crash_of none 0 0 [] h1.dv h1.wf ⟨rfl, Nat.zero_le _, by simp, .inl rfl⟩ (fun h => (h rfl).elim)).mono (fun e w' hh => ⟨hh.1, Ky.sv h1 h2 h3 (h1.dvstep hh.2 (h1.wf.crash []))⟩)
theorem Ky.rec (h : Ky W k st c V) (hs : SmD st.s) (hb : (bestK st.s st.zs 2).2.2.2 = 0) : Calls Tryz.prog 18 #[.pointer (some ⟨k.pd, 0, none⟩)] V fun e w' => ∃ l k2 c2, (l.map foK).Perm (newTo st.zs (bestK st.s st.zs 2).1 st.zs.length) ∧ Ky W k2 (markM (recS st.s st.zs l)).2 c2 w' ∧ c2 ≤ 2000 ∧ e = .returned (.tuple #[.pointer (if (markM (recS st.s st.zs l)).1 = 0 then some ⟨k2.ps, 0, none⟩ else none), .int .u16 (markM (recS st.s st.zs l)).1]) := by
 obtain ⟨D, h1, h2, h3⟩ := h
 refine (orecover_of h1.dv h1.wf hs h1.lt).mono ?_
 rintro e w' (⟨hn, _⟩ | ⟨_, l, k2, V2, c2, hp, hu, hb2, ⟨D', hv', hD', ho'⟩, hc2, _, hk2, rfl⟩)
 ·exact (hn hb).elim
 ·have hV2 : Below W.heap.size W V2 := h2.trans (hb2.mono h2.size)
  refine ⟨l, k2, c2, hp, ⟨D', hv', hV2.trans (ho'.below hV2.size (fun j hj => ?_)), fun x hx => ?_⟩, hc2, rfl⟩
  ·rcases hj with hj | hj
   ·exact h3 j (.inl hj)
   ·have := hk2 j hj; have := h2.size; omega
  ·rcases hx with hx | hx
   ·rcases hD' x hx with h | h
    ·exact h3 x (.inl h)
    ·have := hV2.size; omega
   ·have := hk2 x hx; have := h2.size; omega
theorem Ky.get (h : Ky W k st c V) (n : Pr) (hn : FitsN n) (hp : Plc st.zs st.S) : Calls Tryz.prog 20 #[.pointer (some ⟨k.ps, 0, none⟩), .int .u32 n.1, .int .u64 n.2] V fun e w' => ∃ v, e = .returned (.tuple #[v, .bool (memT st n).isSome]) ∧ Ky W k st c w' := by
 have hu := fun w' hb => h.under (V' := w') hb
 obtain ⟨D, h1, h2, h3⟩ := h
 exact (sget_of h1 n hn hp).mono (fun e w' hh => by obtain ⟨v, h, _, hb⟩ := hh; exact ⟨v, h, hu w' hb⟩)
end
set_option maxHeartbeats 4000000 in
theorem oknown_any (W : World) : Calls Tryz.prog 6 #[] W fun e w' => e = .returned (.bool true) ∧ Below W.heap.size W w' := by
 have hN := snew_of s6 W (by decide)
 have HN : Hid (Calls Tryz.prog 7 #[.agg #[.int .i64 6, .int .i64 8, .int .i64 64, .int .i64 2]] W fun e w' => ∃ k, e = .returned (.pointer (some ⟨k.ps, 0, none⟩)) ∧ Ky W k (st0 s6) 0 w') := by
  refine hN.mono ?_
  rintro e w' ⟨hb, ⟨hn, _⟩ | ⟨_, D, k, rfl, h1, h2⟩⟩
  ·exact (hn s6_right).elim
  ·exact ⟨k, rfl, D, h1, hb, h2⟩
 clear hN
 obtain ⟨K, sA, hK, hK1, hpA, hzA, hSA, hqA, hsA, hLA⟩ := putA6
 obtain ⟨sC, hpC, hzC, hsC⟩ := putC6 hzA hqA hsA hLA
 have hmk : ∀ w : World, (Instr.makeSlice 51 (.int .i64 64) (.int .i64 64)).run Tryz.prog w = .ok (.slice (some ⟨w.heap.size, 0, none⟩) 64 64) (w.alloc (.cells (madeCells #[.int .u8 0] 64) 5)) := run_make_row' (P := Tryz.prog) 51 5 (.int .u8 0) 1 Tryz.underlying51 Tryz.zero_u8 rfl .i64 .i64 64 (by omega) (by omega)
 have HA : Hid (∀ V k, Ky W k (st0 s6) 0 V → Calls Tryz.prog 8 #[.pointer (some ⟨k.ps, 0, none⟩), .slice (some ⟨V.heap.size + 1, 0, none⟩) 1 1] ((V.alloc (.cells (madeCells #[.int .u8 0] 64) 5)).alloc (.cells #[.int .u32 1, .int .u64 5, .bool false, .slice (some ⟨V.heap.size, 0, none⟩) 64 64] 61)) fun e w' => e = .returned (.int .u16 0) ∧ Ky W k sA 1 w') := fun V k h => by
  have := h.putn pA pA_fits rfl rfl (by omega)
  rw [hpA] at this
  exact this
 have HC : Hid (∀ V k, Ky W k (flushM sA) 1 V → Calls Tryz.prog 8 #[.pointer (some ⟨k.ps, 0, none⟩), .slice (some ⟨V.heap.size + 1, 0, none⟩) 1 1] ((V.alloc (.cells (madeCells #[.int .u8 0] 64) 5)).alloc (.cells #[.int .u32 1, .int .u64 6, .bool false, .slice (some ⟨V.heap.size, 0, none⟩) 64 64] 61)) fun e w' => e = .returned (.int .u16 0) ∧ Ky W k sC 2 w') := fun V k h => by
  have := h.putn pC pC_fits rfl rfl (by omega)
  rw [hpC] at this
  exact this
 have HR : Hid (∀ V k, Ky W k { sC with zs := crashZ [] sC.zs } 2 V → Calls Tryz.prog 18 #[.pointer (some ⟨k.pd, 0, none⟩)] V fun e w' => ∃ k2 c2 st2, Ky W k2 st2 c2 w' ∧ e = .returned (.tuple #[.pointer (some ⟨k2.ps, 0, none⟩), .int .u16 0]) ∧ (memT st2 (1, 5)).isSome = true ∧ memT st2 (1, 6) = none ∧ Plc st2.zs st2.S ∧ st2.q = 1) := fun V k h => by
  have hb := (found6 hK hK1 hzC).1
  refine (h.rec (by show SmD sC.s; rw [hsC]; decide) (by show (bestK sC.s (crashZ [] sC.zs) 2).2.2.2 = 0; rw [hsC, hb])).mono ?_
  rintro e w' ⟨l, k2, c2, hp, hky, _, rfl⟩
  have e1 : ({ sC with zs := crashZ [] sC.zs } : St).s = s6 := hsC
  rw [e1] at hp hky ⊢
  obtain ⟨_, g1, g2, g3, g4, g5⟩ := recov6 hK hK1 hzC hp
  refine ⟨k2, c2, _, hky, ?_, g2, g3, g4, g5⟩
  show Ending.returned (.tuple #[.pointer (if (markM (recS s6 (crashZ [] sC.zs) l)).1 = 0 then _ else _), .int .u16 (markM (recS s6 (crashZ [] sC.zs) l)).1]) = _
  rw [g1, if_pos rfl]
 clear hpA hzA hSA hqA hsA hLA hpC hzC hsC hK hK1
 go_enter Tryz.func6, Tryz.ntmps6
 go_wp2_with (first
  | (go_at_call 7; refine HN.out.mono ?_; rintro e W1 ⟨k, rfl, hk1⟩)
  | (go_at_call 8; refine (HA.out _ _ hk1).mono ?_; rintro e W2 ⟨rfl, hk2⟩; clear hk1)
  | (go_at_call 19; refine hk2.flush.mono ?_; rintro e W3 ⟨⟨v3, rfl⟩, hk3⟩; clear hk2)
  | (go_at_call 8; refine (HC.out _ _ hk3).mono ?_; rintro e W4 ⟨rfl, hk4⟩; clear hk3)
  | (go_at_call 11; refine hk4.dev.mono ?_; rintro e W5 ⟨rfl, rfl⟩)
  | (go_at_call 17; refine hk4.crash.mono ?_; rintro e W6 ⟨⟨v6, rfl⟩, hk6⟩; clear hk4)
  | (go_at_call 11; refine hk6.dev.mono ?_; rintro e W7 ⟨rfl, rfl⟩)
  | (go_at_call 18; refine (HR.out _ _ hk6).mono ?_; rintro e W8 ⟨k2, c2, st2, hk8, rfl, m5, m6, mp, mq⟩; clear hk6))
 have HG5 : Hid (∀ V, Ky W k2 st2 c2 V → Calls Tryz.prog 20 #[.pointer (some ⟨k2.ps, 0, none⟩), .int .u32 1, .int .u64 5] V fun e w' => ∃ v, e = .returned (.tuple #[v, .bool true]) ∧ Ky W k2 st2 c2 w') := fun V h => by
  have := h.get (1, 5) ⟨by show Fits32 1; unfold Fits32; omega, by show FitsU 5; unfold FitsU; omega⟩ mp
  rw [m5] at this
  exact this
 have HG6 : Hid (∀ V, Ky W k2 st2 c2 V → Calls Tryz.prog 20 #[.pointer (some ⟨k2.ps, 0, none⟩), .int .u32 1, .int .u64 6] V fun e w' => ∃ v, e = .returned (.tuple #[v, .bool false]) ∧ Ky W k2 st2 c2 w') := fun V h => by
  have := h.get (1, 6) ⟨by show Fits32 1; unfold Fits32; omega, by show FitsU 6; unfold FitsU; omega⟩ mp
  rw [m6] at this
  exact this
 have HSq : Hid (∀ V, Ky W k2 st2 c2 V → Calls Tryz.prog 15 #[.pointer (some ⟨k2.ps, 0, none⟩)] V fun e w' => e = .returned (.int .u64 1) ∧ w' = V) := fun V h => by
  have := h.seq
  rw [mq] at this
  exact this
 clear m5 m6 mp mq
 refine (HG5.out _ hk8).mono ?_
 rintro e W9 ⟨v9, rfl, hk9⟩
 clear hk8
 go_wp2_with (first
  | (go_at_call 20; refine (HG6.out _ hk9).mono ?_; rintro e W10 ⟨v10, rfl, hk10⟩; clear hk9)
  | (go_at_call 15; refine (HSq.out _ hk10).mono ?_; rintro e W11 ⟨rfl, rfl⟩))
 go_ret
 exact ⟨rfl, hk10.bel⟩
end
end Go.Proofs.YtcdnjeiamihhbabGreat
