/- What one call of req's Replies does. -/
import Derived.Test.YtlfmdplaoalahaaRRepS
namespace Go.Proofs.Ytlfmdplaoalahaa
open Go.RowKit
set_option linter.unusedVariables false
set_option maxRecDepth 4000

def leftLen (q : Nat) (w : World) : Nat := match w.cell? ⟨q + 4, 0, none⟩ with | some (.slice _ n _) => n | _ => 0
theorem sizes5 (w : World) (a b c d e : Obj) : (((((w.alloc a).alloc b).alloc c).alloc d).alloc e).heap.size = w.heap.size + 5 := by simp
theorem rep_start (q : Nat) (w : World) (hq : q = w.heap.size) (L : Option Addr) (n c : Nat) :
    RepSt q w (((((w.alloc (.cells #[.slice none 0 0] 42)).alloc (.cells #[.slice none 0 0] 43)).alloc (.cells #[.slice none 0 0] 44)).alloc (.cells #[.bool false] 4)).alloc (.cells #[.slice L n c] 55)) [] [] [] [] 0 none 0 0 none 0 0 none 0 L n c := by
  subst hq
  refine ⟨?_, ?_, ?_, ?_, ?_, World.ownsRow_nil _ _ _ _, World.ownsRow_nil _ _ _ _, World.ownsRow_nil _ _ _ _, DsOwn.nil _ _, ?_, by rw [sizes5]; exact Nat.le_refl _⟩
  · exact ((((Blk.new' rfl rfl).alloc _).alloc _).alloc _).alloc _
  · exact (((Blk.new' (by simp) rfl).alloc _).alloc _).alloc _
  · exact ((Blk.new' (by simp) rfl).alloc _).alloc _
  · exact (Blk.new' (by simp) rfl).alloc _
  · exact Blk.new' (by simp) rfl
  · exact (((((Below.refl _ _).alloc (Nat.le_refl _) _).alloc (by simp) _).alloc (by simp; omega) _).alloc (by simp; omega) _).alloc (by simp; omega) _
/-- Where the reader stands: what was read, what is left. -/
structure RepAt (f : Int → Int) (w : World) (xs : List Int) (n : Nat) (P : List Rp) (k : Nat) (L : Option Addr) (n' c' : Nat) (ys : List Int) : Prop where
  eq : rpAll f xs = (rpAll f ys).map (P ++ ·)
  bin : BIn w L n' ys
  nil : L = none → n' = 0 ∧ c' = 0
  cap : n' ≤ c'
  room : k * 16 + n' ≤ n
  fits : ∀ p ∈ P, Fits32 p.a ∧ FitsU p.c
theorem RepAt.wfa {f : Int → Int} {w : World} {xs : List Int} {n : Nat} {P : List Rp} {k : Nat} {L : Option Addr} {n' c' : Nat} {ys : List Int} (h : RepAt f w xs n P k L n' c' ys) : ∀ z ∈ P.map Rp.a, (Lit.int .u32 z).wf = true := by
  intro z hz
  obtain ⟨p, hp, rfl⟩ := List.mem_map.1 hz
  exact WalkArith.wf_u32 (by have := (h.fits p hp).1; unfold Fits32 at this; omega)
theorem RepAt.wfc {f : Int → Int} {w : World} {xs : List Int} {n : Nat} {P : List Rp} {k : Nat} {L : Option Addr} {n' c' : Nat} {ys : List Int} (h : RepAt f w xs n P k L n' c' ys) : ∀ z ∈ P.map Rp.c, (Lit.int .u64 z).wf = true := by
  intro z hz
  obtain ⟨p, hp, rfl⟩ := List.mem_map.1 hz
  exact wfU (h.fits p hp).2
theorem RepAt.fitsy {f : Int → Int} {w : World} {xs : List Int} {n : Nat} {P : List Rp} {k : Nat} {L : Option Addr} {n' c' : Nat} {ys : List Int} (h : RepAt f w xs n P k L n' c' ys) : ∀ z ∈ ys, Fits8 z := h.bin.2.2.1

theorem RepAt.next {f : Int → Int} {w : World} {xs : List Int} {n : Nat} {P : List Rp} {k : Nat} {L : Option Addr} {n' c' : Nat} {ys : List Int} (h : RepAt f w xs n P k L n' c' ys) (hs : StepOk f ys) {A' B' : Option Addr} {Z : Nat} (hZ : (Z : Int) = pN f ys)
    (hb : BIn w A' (n' - 16) (ys.drop 16)) (hn : A' = none → n' - 16 = 0 ∧ c' - 16 = 0) (hc : n' - 16 ≤ c' - 16) (hle : Z ≤ n' - 16) (h16 : 16 ≤ n') (eB : .slice B' (n' - 16 - Z) (c' - 16 - Z) = leftV A' (n' - 16) (c' - 16) Z) :
    RepAt f w xs n (P ++ [rpOne f ys]) (k + 1) B' (n' - 16 - Z) (c' - 16 - Z) (rpRest f ys) := by
  refine ⟨more_step h.eq hs, ?_, left_nil hle hn eB, by omega, by have := h.room; omega, ?_⟩
  · have hb' := left_bin hb hle hc eB
    rw [List.drop_drop] at hb'
    unfold rpRest
    rw [← hZ, Int.toNat_natCast]
    exact hb'
  · intro p hp
    rcases List.mem_append.1 hp with hp | hp
    · exact h.fits p hp
    · simp only [List.mem_cons, List.not_mem_nil, or_false] at hp
      subst hp
      exact ⟨pA_fits h.fitsy, pC_fits h.fitsy⟩
theorem rep_after {q : Nat} {w X Y W9 : World} {aa cs : List Int} {Ds : List (List Int)} {vs : List Value} {k1 : Nat} {A1 : Option Addr} {C1 : Nat} {k2 : Nat} {A2 : Option Addr} {C2 : Nat} {k3 : Nat} {A3 : Option Addr} {C3 : Nat} {A B : Option Addr} {m c Z C9 : Nat} {A9 : Option Addr} {D : List Int}
    (st : RepSt q w X aa cs Ds vs k1 A1 C1 k2 A2 C2 k3 A3 C3 A m c) (b9 : Below X.heap.size X W9) (hY : Y = W9.setCell ⟨q + 4, 0, none⟩ (leftV A m c Z)) (o9 : W9.ownsRow X.heap.size 5 1 (.slice A9 Z C9) Z (u8s D)) (eB : .slice B (m - Z) (c - Z) = leftV A m c Z) :
    RepSt q w Y aa cs Ds vs k1 A1 C1 k2 A2 C2 k3 A3 C3 B (m - Z) (c - Z) ∧ Y.ownsRow (q + 5) 5 1 (.slice A9 Z C9) Z (u8s D) ∧ q + 5 ≤ Y.heap.size := by
  subst hY
  have h1 := (st.below b9).leave eB
  refine ⟨h1, own_lowerN (ownsRow_setCell_below o9 (by have := st.size; show q + 4 < X.heap.size; omega) _) st.size, h1.size⟩
/-- Replies' body panicked in this world; its deferred call is laid. -/
def DiedR (q : Nat) (W : World) (e : Exit) (a : Act) (w : World) : Prop :=
  e = .panic [{ v := .iface 9 (.string tooEarly), recovered := false }] ∧ w = W ∧ a.defers = catchE q ∧ a.tmps.getD 4 undef = .pointer (some ⟨q, 0, none⟩) ∧ a.tmps.getD 5 undef = .pointer (some ⟨q + 1, 0, none⟩) ∧ a.tmps.getD 6 undef = .pointer (some ⟨q + 2, 0, none⟩) ∧ a.tmps.getD 7 undef = .pointer (some ⟨q + 3, 0, none⟩)
theorem DiedR.put {q : Nat} {W : World} {e : Exit} {a : Act} {w : World} {v : Value} {d : Nat} (hd : 7 < d) (h : DiedR q W e (a.put (some d) v) w) : DiedR q W e a w := by
  obtain ⟨h1, h2, h3, h4, h5, h6, h7⟩ := h
  rw [put_other _ _ (by omega)] at h4 h5 h6 h7
  exact ⟨h1, h2, h3, h4, h5, h6, h7⟩

set_option maxHeartbeats 2000000 in
theorem replies_of (a : Option Addr) (n c : Nat) (xs : List Int) (v : Value) (f : Int → Int) (w : World) (hx : BIn w a n xs) (hnil : a = none → n = 0 ∧ c = 0) (hnc : n ≤ c) (hm : MIn w v f) (hn : n ≤ 100000) :
    Calls Try.prog 19 #[.slice a n c, v] w (RepGot w.heap.size w (rpList f xs) (rpIs f xs)) := by
  have hmf : ∀ (fn : Fn) (first cap : Array Value) (w : World), (Instr.makeFunc fn first cap).run Try.prog w = .ok (.func fn first cap) w := fun _ _ _ _ => rfl
  obtain ⟨R0, hR⟩ : ∃ K, K = rpList f xs := ⟨_, rfl⟩
  obtain ⟨B0, hB⟩ : ∃ K, K = rpIs f xs := ⟨_, rfl⟩
  obtain ⟨q, hq⟩ : ∃ q, q = w.heap.size := ⟨_, rfl⟩
  rw [← hR, ← hB, ← hq]
  have HF : Hid (R0 = rpList f xs ∧ B0 = rpIs f xs) := ⟨hR, hB⟩
  have hst := rep_start q w hq a n c
  have H : Hid (BIn w a n xs ∧ (a = none → n = 0 ∧ c = 0) ∧ n ≤ c ∧ q = w.heap.size ∧ MIn w v f ∧ n ≤ 100000) := ⟨hx, hnil, hnc, hq, hm, hn⟩
  have H0 : Hid (RepSt q w (((((w.alloc (.cells #[.slice none 0 0] 42)).alloc (.cells #[.slice none 0 0] 43)).alloc (.cells #[.slice none 0 0] 44)).alloc (.cells #[.bool false] 4)).alloc (.cells #[.slice a n c] 55)) [] [] [] [] 0 none 0 0 none 0 0 none 0 a n c) := hst
  clear hx hnil hnc hR hB hst hm hn
  go_enter_defers Try.func19, Try.ntmps19
  go_wp2
  rw [← hq]
  clear hq
  generalize hW : World.alloc (World.alloc (World.alloc (World.alloc (World.alloc w _) _) _) _) _ = W at H0 ⊢
  clear hW
  have e2 : q + 1 + 1 = q + 2 := rfl
  have e3 : q + 1 + 1 + 1 = q + 3 := rfl
  have e4 : q + 1 + 1 + 1 + 1 = q + 4 := rfl
  rw [e4, e3, e2]
  clear e2 e3 e4
  go_loopw [19] (fun _ wr => ∃ (P : List Rp) (vs : List Value) (k : Nat) (A1 : Option Addr) (C1 : Nat) (A2 : Option Addr) (C2 : Nat) (A3 : Option Addr) (C3 : Nat) (L : Option Addr) (n' c' : Nat) (ys : List Int), RepSt q w wr (P.map Rp.a) (P.map Rp.c) (P.map Rp.d) vs k A1 C1 k A2 C2 k A3 C3 L n' c' ∧ RepAt f w xs n P k L n' c' ys)
    (fun _ wr => leftLen q wr)
  case atStart => exact ⟨[], [], 0, none, 0, none, 0, none, 0, a, n, c, xs, H0.out, by simp, H.out.1, H.out.2.1, H.out.2.2.1, by omega, by simp⟩
  case round =>
    obtain ⟨P, vs, k, A1, C1, A2, C2, A3, C3, L, n', c', ys, st, at'⟩ := hrel
    have HS : Hid (RepSt q w wr (P.map Rp.a) (P.map Rp.c) (P.map Rp.d) vs k A1 C1 k A2 C2 k A3 C3 L n' c' ∧ RepAt f w xs n P k L n' c' ys ∧ leftLen q wr = n') := ⟨st, at', by unfold leftLen; rw [st.left.cell 0]; rfl⟩
    have x4 : wr.cell? ⟨q + 4, 0, none⟩ = some (.slice L n' c') := st.left.cell 0
    have hkn : k ≤ 100000 ∧ n' ≤ 100000 := by have := H.out.2.2.2.2.2; have := at'.room; omega
    obtain ⟨hk, hn'⟩ := hkn
    clear st at'
    by_cases h0 : n' = 0
    · obtain ⟨r1, r2⟩ := more_end HS.out.2.1.eq (by rw [HS.out.2.1.bin.1]; exact h0)
      have HR : Hid (R0 = P ∧ B0 = true) := ⟨HF.out.1.trans r1, HF.out.2.trans r2⟩
      subst h0
      have x0 : wr.cell? ⟨q, 0, none⟩ = some (.slice A1 k C1) := HS.out.1.ans.cell 0
      have x1 : wr.cell? ⟨q + 1, 0, none⟩ = some (.slice A2 k C2) := HS.out.1.cks.cell 0
      have x2 : wr.cell? ⟨q + 2, 0, none⟩ = some (.slice A3 k C3) := HS.out.1.dat.cell 0
      have x3 : wr.cell? ⟨q + 3, 0, none⟩ = some (.bool false) := HS.out.1.flag.cell 0
      have y0 := HS.out.1.ans.frozen 0
      have y1 := HS.out.1.cks.frozen 0
      have y2 := HS.out.1.dat.frozen 0
      have y3 := HS.out.1.flag.frozen 0
      clear r1 r2
      go_wp2
      refine wp_region_noPanic ?_
      go_region
      refine NoPanic.normal ?_
      go_wp2
      exact rep_told HR.out HS.out.1 hk HS.out.2.1.wfa HS.out.2.1.wfc _ rfl rfl rfl rfl
    · have hpos : (0 : Int) < n' := by omega
      go_wp2_with fail
      refine (repWidths_of wr).mono ?_
      rintro e W1 ⟨rfl, rfl⟩
      go_wp2_with fail
      have n0 := nin_rp (w := wr) rfl
      have s0 := HS.out.1.below ((Below.refl _ _).alloc (Nat.le_refl _) (.cells #[.int .i64 4, .int .i64 4, .int .i64 8] 3))
      generalize hW1 : World.alloc wr _ = W1 at n0 s0 ⊢
      obtain ⟨s, hs⟩ : ∃ s, s = wr.heap.size := ⟨_, rfl⟩
      rw [← hs] at n0 ⊢
      have HW : Hid (NIn .i64 W1 (some ⟨s, 0, none⟩) 3 rpW ∧ RepSt q w W1 (P.map Rp.a) (P.map Rp.c) (P.map Rp.d) vs k A1 C1 k A2 C2 k A3 C3 L n' c' ∧ BIn W1 L n' ys) := ⟨n0, s0, HS.out.2.1.bin.below (by rw [← H.out.2.2.2.1]; exact s0.bel)⟩
      have hy0 : ys.length ≠ 0 := by rw [HS.out.2.1.bin.1]; exact h0
      have hbad : ¬ StepOk f ys → R0 = [] ∧ B0 = false := fun hs => by
        obtain ⟨r1, r2⟩ := more_bad HS.out.2.1.eq hy0 hs
        exact ⟨HF.out.1.trans r1, HF.out.2.trans r2⟩
      have HB : Hid (¬ StepOk f ys → R0 = [] ∧ B0 = false) := hbad
      clear hW1 n0 s0 hs hy0 hbad h0 hpos x4
      by_cases h16 : n' < 16
      · obtain ⟨r1, r2⟩ := HB.out (fun h => by have := h.1; rw [HS.out.2.1.bin.1] at this; omega)
        have HR : Hid (R0 = [] ∧ B0 = false) := ⟨r1, r2⟩
        clear r1 r2
        refine (numbers_few (q + 4) L n' c' ys (some ⟨s, 0, none⟩) 3 3 rpW W1 (HW.out.2.1.left.cell 0) (HW.out.2.1.left.frozen 0) HW.out.2.2 HS.out.2.1.nil HS.out.2.1.cap HW.out.1 sane_rp hn' (by omega) (by rw [off_rp]; exact h16)).mono ?_
        rintro e W2 ⟨rfl, bl⟩
        exact rep_died HR.out (HW.out.2.1.below bl) _ rfl rfl rfl rfl
      refine (numbers_of (q + 4) L n' c' ys (some ⟨s, 0, none⟩) 3 3 rpW W1 (HW.out.2.1.left.cell 0) (HW.out.2.1.left.frozen 0) HW.out.2.2 HS.out.2.1.nil HS.out.2.1.cap HW.out.1 sane_rp hn' (by omega) (by rw [off_rp]; omega)).mono ?_
      rw [off_rp, val_rp]
      obtain ⟨A', eA⟩ : ∃ A', .slice A' (n' - 16) (c' - 16) = leftV L n' c' 16 := ⟨_, rfl⟩
      obtain ⟨M, eM⟩ : ∃ M, M = pM ys := ⟨_, rfl⟩
      obtain ⟨x, ex⟩ : ∃ x, x = pA ys := ⟨_, rfl⟩
      obtain ⟨y, ey⟩ : ∃ y, y = pC ys := ⟨_, rfl⟩
      have hxf := pA_fits HS.out.2.1.fitsy
      have hyf := pC_fits HS.out.2.1.fitsy
      rw [← eM, ← ex, ← ey]
      rw [← ex] at hxf
      rw [← ey] at hyf
      rintro e W3 ⟨A, kk, C, W2, rfl, bl, rfl, ow⟩
      have st3 := (HW.out.2.1.below bl).leave eA
      have ow3 := ownsRow_setCell_below ow (a := ⟨q + 4, 0, none⟩) (by have := HW.out.2.1.size; show q + 4 < W1.heap.size; omega) (leftV L n' c' 16)
      generalize hW3 : World.setCell W2 _ _ = W3 at st3 ow3 ⊢
      obtain ⟨g, rfl, hk3, hg, hkC, hc⟩ := own_at ow3 (by simp)
      have hk3' : kk = 3 := by simpa using hk3
      subst hk3'
      have c0 : W3.cell? ⟨g, 0, none⟩ = some (.int .u64 M) := hc 0 (by simp)
      have c1 : W3.cell? ⟨g, 1, none⟩ = some (.int .u64 x) := hc 1 (by simp)
      have c2 : W3.cell? ⟨g, 2, none⟩ = some (.int .u64 y) := hc 2 (by simp)
      have HT : Hid (RepSt q w W3 (P.map Rp.a) (P.map Rp.c) (P.map Rp.d) vs k A1 C1 k A2 C2 k A3 C3 A' (n' - 16) (c' - 16) ∧ M = pM ys ∧ x = pA ys ∧ y = pC ys ∧ Fits32 x ∧ FitsU y ∧ BIn w A' (n' - 16) (ys.drop 16) ∧ (A' = none → n' - 16 = 0 ∧ c' - 16 = 0) ∧ n' - 16 ≤ c' - 16) :=
        ⟨st3, eM, ex, ey, hxf, hyf, left_bin HS.out.2.1.bin (by omega) HS.out.2.1.cap eA, left_nil (by omega) HS.out.2.1.nil eA, by have := HS.out.2.1.cap; omega⟩
      have hwx : IntKind.u32.wrap x = x := by rw [IntKind.wrap_u32]; unfold Fits32 at hxf; omega
      clear ow ow3 hc hk3 hg hkC eM ex ey eA bl st3 hxf hyf hW3 HW
      go_wp2
      refine wp_region_noPanic ?_
      go_quiet (fail)
      have HV : Hid (RepSt q w (W3.drewN nq) (P.map Rp.a) (P.map Rp.c) (P.map Rp.d) vs k A1 C1 k A2 C2 k A3 C3 A' (n' - 16) (c' - 16)) := HT.out.1.drewN nq
      clear c0 c1 c2 hwx
      generalize hV : W3.drewN nq = V at HV ⊢
      clear hV
      refine NoPanic.normal ?_
      have x0 : V.cell? ⟨q, 0, none⟩ = some (.slice A1 k C1) := HV.out.ans.cell 0
      have y0 := HV.out.ans.frozen 0
      by_cases hMm : M = rpMagic
      · have HM : Hid (M = rpMagic) := hMm
        have hM' : (M != 1732535960) = false := by rw [hMm]; rfl
        clear hMm
        go_upto_region 9 with (at_builtin; refine wpList_append_one Try.underlying42 Try.zero_u32 rfl (by decide) rfl (.tmp 34) (.tmp 36) rfl (q + 5) A1 k C1 (kInts .u32 (P.map Rp.a)) rfl (HV.out.own1.alloc _) V.heap.size 1 (.int .u32 x) rfl (World.cell?_alloc_mark ..) rfl (by omega) (by have := HV.out.size; simp; omega) ?_; intro B1 D1 V1 ow1 bl1 gr1; have t0 : V1.cell? ⟨q, 0, none⟩ = some (.slice A1 k C1) := ((HV.out.ans.alloc _).below bl1 (by omega)).cell 0; have f0 := ((HV.out.ans.alloc _).below bl1 (by omega)).frozen 0)
        have st1 := HV.out.app1 ow1 bl1 gr1
        generalize hU : World.setCell V1 _ _ = U at st1 ⊢
        have HU : Hid (RepSt q w U (P.map Rp.a ++ [x]) (P.map Rp.c) (P.map Rp.d) vs (k + 1) B1 D1 k A2 C2 k A3 C3 A' (n' - 16) (c' - 16)) := st1
        clear st1 ow1 bl1 gr1 t0 f0 hU x0 y0
        have x1 : U.cell? ⟨q + 1, 0, none⟩ = some (.slice A2 k C2) := HU.out.cks.cell 0
        go_upto_region 10 with (at_builtin; refine wpList_append_one Try.underlying43 Try.zero_u64 rfl (by decide) rfl (.tmp 38) (.tmp 40) rfl (q + 5) A2 k C2 (kInts .u64 (P.map Rp.c)) rfl (HU.out.own2.alloc _) U.heap.size 1 (.int .u64 y) rfl (World.cell?_alloc_mark ..) rfl (by omega) (by have := HU.out.size; simp; omega) ?_; intro B2 D2 V2 ow1 bl1 gr1; have t0 : V2.cell? ⟨q + 1, 0, none⟩ = some (.slice A2 k C2) := ((HU.out.cks.alloc _).below bl1 (by omega)).cell 0; have f0 := ((HU.out.cks.alloc _).below bl1 (by omega)).frozen 0)
        have st1 := HU.out.app2 ow1 bl1 gr1
        generalize hX : World.setCell V2 _ _ = X at st1 ⊢
        have HX : Hid (RepSt q w X (P.map Rp.a ++ [x]) (P.map Rp.c ++ [y]) (P.map Rp.d) vs (k + 1) B1 D1 (k + 1) B2 D2 k A3 C3 A' (n' - 16) (c' - 16)) := st1
        clear st1 ow1 bl1 gr1 t0 f0 hX x1
        have x2 : X.cell? ⟨q + 2, 0, none⟩ = some (.slice A3 k C3) := HX.out.dat.cell 0
        have x4 : X.cell? ⟨q + 4, 0, none⟩ = some (.slice A' (n' - 16 : Nat) (c' - 16 : Nat)) := HX.out.left.cell 0
        have hpf : Fits32 (pN f ys) := by
          unfold pN
          split
          · exact H.out.2.2.2.2.1.1 _
          · unfold Fits32; omega
        obtain ⟨Z, eZ⟩ : ∃ Z : Nat, (Z : Int) = pN f ys := ⟨(pN f ys).toNat, Int.toNat_of_nonneg hpf.1⟩
        have cD := dataLength_of x y v f X.drew (H.out.2.2.2.2.1.below (by rw [← H.out.2.2.2.1]; exact HX.out.bel.drew)) HT.out.2.2.2.2.2.1
        have eN : (if x = 0 then f y else 0) = (Z : Int) := by rw [eZ, HT.out.2.2.1, HT.out.2.2.2.1]; rfl
        rw [eN] at cD
        have HZ : Hid ((Z : Int) = pN f ys ∧ Z < 4294967296) := ⟨eZ, by have := hpf.2; omega⟩
        clear eN eZ hpf
        by_cases hen : Z ≤ n' - 16
        · have hok : StepOk f ys := ⟨by rw [HS.out.2.1.bin.1]; omega, HT.out.2.1.symm.trans HM.out, by rw [HS.out.2.1.bin.1, ← HZ.out.1]; omega⟩
          obtain ⟨B', eB⟩ : ∃ B', .slice B' (n' - 16 - Z) (c' - 16 - Z) = leftV A' (n' - 16) (c' - 16) Z := ⟨_, rfl⟩
          have cT := data_of (q + 4) A' (n' - 16) (c' - 16) Z (ys.drop 16) X.drew (HX.out.drew.left.cell 0) (HX.out.drew.left.frozen 0) (HT.out.2.2.2.2.2.2.1.below (by rw [← H.out.2.2.2.1]; exact HX.out.bel.drew)) HT.out.2.2.2.2.2.2.2.1 HT.out.2.2.2.2.2.2.2.2 (by omega) hen
          have HN : Hid (RepAt f w xs n (P ++ [rpOne f ys]) (k + 1) B' (n' - 16 - Z) (c' - 16 - Z) (rpRest f ys)) := HS.out.2.1.next hok HZ.out.1 HT.out.2.2.2.2.2.2.1 HT.out.2.2.2.2.2.2.2.1 HT.out.2.2.2.2.2.2.2.2 hen (by omega) eB
          have HE : Hid (.slice B' (n' - 16 - Z) (c' - 16 - Z) = leftV A' (n' - 16) (c' - 16) Z ∧ Z ≤ n' - 16 ∧ n' ≤ 100000 ∧ 16 ≤ n' ∧ k ≤ 100000) := ⟨eB, hen, hn', by omega, hk⟩
          have hdf : ∀ z ∈ (ys.drop 16).take Z, Fits8 z := fun z hz => HS.out.2.1.fitsy z (List.mem_of_mem_drop (List.mem_of_mem_take hz))
          have HD : Hid (∀ z ∈ (ys.drop 16).take Z, Fits8 z) := hdf
          clear eB hen hdf hok x4 h16 hn'
          refine wp_region_noPanic ?_
          go_region_law (first
            | (go_simp; go_at_call 34; refine cD.mono ?_; rintro e w1 ⟨rfl, rfl⟩)
            | (go_simp; go_at_call 27; refine cT.mono ?_; rintro e Y ⟨A9, C9, W9, rfl, b9, hY, o9⟩; have SY : Hid (RepSt q w Y (P.map Rp.a ++ [x]) (P.map Rp.c ++ [y]) (P.map Rp.d) vs (k + 1) B1 D1 (k + 1) B2 D2 k A3 C3 B' (n' - 16 - Z) (c' - 16 - Z) ∧ Y.ownsRow (q + 5) 5 1 (.slice A9 Z C9) Z (u8s ((ys.drop 16).take Z)) ∧ q + 5 ≤ Y.heap.size) := (rep_after HX.out.drew b9 hY o9 HE.out.1); clear b9 hY o9; have v0 : Y.cell? ⟨q + 2, 0, none⟩ = some (.slice A3 k C3) := SY.out.1.dat.cell 0; have v2 : ∀ o, (Y.alloc o).cell? ⟨q + 2, 0, none⟩ = some (.slice A3 k C3) := fun o => (SY.out.1.dat.alloc o).cell 0)
            | (refine step_append_one Try.underlying44 Try.zero_bytes rfl (by decide) rfl (.tmp 42) (.tmp 48) rfl (q + 5) A3 k C3 vs rfl (SY.out.1.own3.alloc _) Y.heap.size 1 (.slice A9 Z C9) rfl (World.cell?_alloc_mark ..) rfl (by omega) (by have := SY.out.2.2; simp; omega) ?_; intro A8 C8 w8 ow8 bl8 gr8; have k2 : w8.cell? ⟨q + 2, 0, none⟩ = some (.slice A3 k C3) := ((SY.out.1.dat.alloc _).below bl8 (by omega)).cell 0; have f2 := ((SY.out.1.dat.alloc _).below bl8 (by omega)).frozen 0))
          all_goals (
            have st9 := SY.out.1.app3 ow8 bl8 gr8 SY.out.2.1 (by have := HE.out; omega) HD.out
            have H9 : Hid (RepSt q w (w8.setCell ⟨q + 2, 0, none⟩ (.slice A8 (k + 1) C8)) ((P ++ [rpOne f ys]).map Rp.a) ((P ++ [rpOne f ys]).map Rp.c) ((P ++ [rpOne f ys]).map Rp.d) (vs ++ [.slice A9 Z C9]) (k + 1) B1 D1 (k + 1) B2 D2 (k + 1) A8 C8 B' (n' - 16 - Z) (c' - 16 - Z)) := by
              have e1 : (P ++ [rpOne f ys]).map Rp.a = P.map Rp.a ++ [x] := by rw [List.map_append, HT.out.2.2.1]; rfl
              have e2 : (P ++ [rpOne f ys]).map Rp.c = P.map Rp.c ++ [y] := by rw [List.map_append, HT.out.2.2.2.1]; rfl
              have e3 : (P ++ [rpOne f ys]).map Rp.d = P.map Rp.d ++ [(ys.drop 16).take Z] := by rw [List.map_append]; simp only [List.map_cons, List.map_nil, rpOne]; rw [← HZ.out.1, Int.toNat_natCast]
              rw [e1, e2, e3]
              exact st9
            clear st9 ow8 bl8 gr8 k2 f2
            refine NoPanic.normal ?_
            go_wp2
            go_roundw
            case rel => exact ⟨P ++ [rpOne f ys], vs ++ [.slice A9 Z C9], k + 1, B1, D1, B2, D2, A8, C8, B', n' - 16 - Z, c' - 16 - Z, rpRest f ys, H9.out, HN.out⟩
            case measure =>
              show leftLen q _ < leftLen q wr
              rw [HS.out.2.2]
              unfold leftLen
              rw [H9.out.left.cell 0]
              have := HE.out
              show n' - 16 - Z < n'
              omega)
        · have hno : ¬ StepOk f ys := fun h => by have := h.2.2; rw [HS.out.2.1.bin.1, ← HZ.out.1] at this; omega
          have HR : Hid (R0 = [] ∧ B0 = false) := HB.out hno
          have cF := data_few (q + 4) A' (n' - 16) (c' - 16) Z X.drew (HX.out.drew.left.cell 0) (by omega) (by omega) (by rw [IntKind.wrap_u64]; have := HZ.out.2; omega)
          clear hno hen h16
          refine Code.wp_mono (Q := DiedR q X.drew) ?_ ?_
          · rintro e ⟨tmps, defers⟩ w' ⟨rfl, rfl, h3, h4, h5, h6, h7⟩
            dsimp only at h3 h4 h5 h6 h7
            subst h3
            exact rep_died HR.out HX.out.drew tmps h4 h5 h6 h7
          refine wp_region_held_drew (S := fun w' => w' = X.drew) (by kernel_rfl) rfl (fun hS => ?_)
          refine wpAnyH_take (i := 0) (oi := { dst := some 42, op := Op.load 44 (Operand.tmp 6), type := 44, pos := "req.go:71", after := #[], guard := none }) (v := .slice A3 k C3) rfl (by kernel_rfl) (by kernel_rfl) (by kernel_rfl) (fun _ _ _ h => DiedR.put (by decide) h) (Or.inl ⟨by rfl, fun w hw => by subst hw; go_simp⟩) hS ?_
          simp only [Act.put, List.setIfInBounds_toArray, List.set_cons_zero, List.set_cons_succ]
          refine wpAnyH_take (i := 1) (oi := { dst := some 43, op := Op.move (Operand.tmp 11), type := 26, pos := "req.go:71", after := #[], guard := none }) (v := .int .u32 x) rfl (by kernel_rfl) (by kernel_rfl) (by kernel_rfl) (fun _ _ _ h => DiedR.put (by decide) h) (Or.inl ⟨by rfl, fun w hw => by subst hw; (go_simp; try with_reducible rfl)⟩) hS ?_
          simp only [Act.put, List.setIfInBounds_toArray, List.set_cons_zero, List.set_cons_succ]
          refine wpAnyH_take (i := 2) (oi := { dst := some 44, op := Op.move (Operand.tmp 12), type := 25, pos := "req.go:71", after := #[], guard := none }) (v := .int .u64 y) rfl (by kernel_rfl) (by kernel_rfl) (by kernel_rfl) (fun _ _ _ h => DiedR.put (by decide) h) (Or.inl ⟨by rfl, fun w hw => by subst hw; (go_simp; try with_reducible rfl)⟩) hS ?_
          simp only [Act.put, List.setIfInBounds_toArray, List.set_cons_zero, List.set_cons_succ]
          refine wpAnyH_take (i := 3) (oi := { dst := some 45, op := Op.move (Operand.tmp 1), type := 41, pos := "req.go:71", after := #[], guard := none }) (v := v) rfl (by kernel_rfl) (by kernel_rfl) (by kernel_rfl) (fun _ _ _ h => DiedR.put (by decide) h) (Or.inl ⟨by rfl, fun w hw => by subst hw; (go_simp; try with_reducible rfl)⟩) hS ?_
          simp only [Act.put, List.setIfInBounds_toArray, List.set_cons_zero, List.set_cons_succ]
          refine wpAnyH_ready (rs := [4]) (by kernel_rfl) (by simp) (AllReadyH.cons (o := { dst := some 46, op := Op.call { callee := Callee.value (Operand.func 34), args := #[Operand.tmp 43, Operand.tmp 44, Operand.tmp 45], argTypes := #[26, 25, 41] }, type := 26, pos := "req.go:71", after := #[{ on := 1, ground := Ground.data }, { on := 2, ground := Ground.data }, { on := 3, ground := Ground.data }], guard := none }) rfl (fun KK hK => ?_) AllReadyH.nil)
          go_simp
          refine cD.mono ?_
          rintro e w1 ⟨rfl, rfl⟩
          refine hK.out _ _ rfl (fun hS' => ?_)
          clear hK KK hS'
          refine wpAnyH_ready (rs := [5]) (by kernel_rfl) (by simp) (AllReadyH.cons (o := { dst := some 47, op := Op.call { callee := Callee.value (Operand.func 27), args := #[Operand.tmp 8, Operand.tmp 46], argTypes := #[55, 26] }, type := 22, pos := "req.go:71", after := #[{ on := 4, ground := Ground.data }, { on := 4, ground := Ground.chain }], guard := none }) rfl (fun KK hK => ?_) AllReadyH.nil)
          go_simp
          refine cF.mono ?_
          rintro e w1 ⟨rfl, rfl⟩
          exact ⟨rfl, rfl, rfl, rfl, rfl, rfl, rfl⟩
      · obtain ⟨r1, r2⟩ := HB.out (fun h => hMm (HT.out.2.1.trans h.2.1))
        have HR : Hid (R0 = [] ∧ B0 = false) := ⟨r1, r2⟩
        clear r1 r2
        have hM' : (M != 1732535960) = true := by unfold rpMagic at hMm; simp [hMm]
        clear hMm
        have x1 : V.cell? ⟨q + 1, 0, none⟩ = some (.slice A2 k C2) := HV.out.cks.cell 0
        have x2 : V.cell? ⟨q + 2, 0, none⟩ = some (.slice A3 k C3) := HV.out.dat.cell 0
        have x3 : V.cell? ⟨q + 3, 0, none⟩ = some (.bool false) := HV.out.flag.cell 0
        have y1 := HV.out.cks.frozen 0
        have y2 := HV.out.dat.frozen 0
        have y3 := HV.out.flag.frozen 0
        go_wp2
        exact rep_none HR.out HV.out _ rfl rfl rfl rfl
end Go.Proofs.Ytlfmdplaoalahaa
