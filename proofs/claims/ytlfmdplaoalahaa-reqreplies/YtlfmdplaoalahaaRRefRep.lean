/- What one call of the document's own Replies does. -/
import Derived.Test.YtlfmdplaoalahaaRSame
namespace Go.Proofs.Ytlfmdplaoalahaa
open Go.RowKit
set_option linter.unusedVariables false
set_option maxRecDepth 4000

theorem own_kept {V w2 : World} {o : Obj} {b1 b2 : Nat} {t e : TypeId} {v u : Value} {n m : Nat} {xs ys : List Value} (h : V.ownsRow b1 t 1 v n xs) (k : V.ownsRow b2 e 1 u m ys) (hte : t ≠ e) (hg : (V.alloc o).grownBy w2 u.ownBlock) : w2.ownsRow b1 t 1 v n xs := (h.alloc o).kept hg (own_apart (h.alloc o) (k.alloc o) hte)
/-- The document's Replies: what it has so far. -/
structure DSt (q : Nat) (w V : World) (aa cs : List Int) (Ds : List (List Int)) (vs : List Value) (k1 : Nat) (A1 : Option Addr) (C1 : Nat) (k2 : Nat) (A2 : Option Addr) (C2 : Nat) (k3 : Nat) (A3 : Option Addr) (C3 : Nat) : Prop where
  own1 : V.ownsRow q 26 1 (.slice A1 k1 C1) k1 (kInts .u32 aa)
  own2 : V.ownsRow q 25 1 (.slice A2 k2 C2) k2 (kInts .u64 cs)
  own3 : V.ownsRow q 22 1 (.slice A3 k3 C3) k3 vs
  ds : DsOwn V q vs Ds
  bel : Below q w V
  size : q ≤ V.heap.size
section
variable {q : Nat} {w V V' : World} {aa cs : List Int} {Ds : List (List Int)} {vs : List Value} {k1 : Nat} {A1 : Option Addr} {C1 : Nat} {k2 : Nat} {A2 : Option Addr} {C2 : Nat} {k3 : Nat} {A3 : Option Addr} {C3 : Nat}
theorem DSt.below (h : DSt q w V aa cs Ds vs k1 A1 C1 k2 A2 C2 k3 A3 C3) (hb : Below V.heap.size V V') : DSt q w V' aa cs Ds vs k1 A1 C1 k2 A2 C2 k3 A3 C3 :=
  ⟨own_belowN h.own1 hb (Nat.le_refl _), own_belowN h.own2 hb (Nat.le_refl _), own_belowN h.own3 hb (Nat.le_refl _), h.ds.map (fun _ _ _ _ o => own_belowN o hb (Nat.le_refl _)), h.bel.trans (hb.mono h.size), Nat.le_trans h.size hb.size⟩
theorem DSt.app1 (h : DSt q w V aa cs Ds vs k1 A1 C1 k2 A2 C2 k3 A3 C3) {o : Obj} {w2 : World} {A : Option Addr} {C : Nat} {x : Int} (ho : w2.ownsRow q 26 1 (.slice A (k1 + 1) C) (k1 + 1) (kInts .u32 aa ++ [.int .u32 x])) (hb : Below q (V.alloc o) w2) (hg : (V.alloc o).grownBy w2 (Value.slice A1 k1 C1).ownBlock) :
    DSt q w w2 (aa ++ [x]) cs Ds vs (k1 + 1) A C k2 A2 C2 k3 A3 C3 :=
  ⟨by simpa [kInts] using ho, (h.own2.alloc o).kept hg (own_apart (h.own2.alloc o) (h.own1.alloc o) (by decide)), (h.own3.alloc o).kept hg (own_apart (h.own3.alloc o) (h.own1.alloc o) (by decide)),
    h.ds.map (fun _ _ _ _ p => (p.alloc o).kept hg (own_apart (p.alloc o) (h.own1.alloc o) (by decide))), (h.bel.alloc h.size o).trans hb, by have h1 := h.size; have h2 := hb.size; simp at h2; omega⟩
theorem DSt.app2 (h : DSt q w V aa cs Ds vs k1 A1 C1 k2 A2 C2 k3 A3 C3) {o : Obj} {w2 : World} {A : Option Addr} {C : Nat} {x : Int} (ho : w2.ownsRow q 25 1 (.slice A (k2 + 1) C) (k2 + 1) (kInts .u64 cs ++ [.int .u64 x])) (hb : Below q (V.alloc o) w2) (hg : (V.alloc o).grownBy w2 (Value.slice A2 k2 C2).ownBlock) :
    DSt q w w2 aa (cs ++ [x]) Ds vs k1 A1 C1 (k2 + 1) A C k3 A3 C3 :=
  ⟨(h.own1.alloc o).kept hg (own_apart (h.own1.alloc o) (h.own2.alloc o) (by decide)), by simpa [kInts] using ho, (h.own3.alloc o).kept hg (own_apart (h.own3.alloc o) (h.own2.alloc o) (by decide)),
    h.ds.map (fun _ _ _ _ p => (p.alloc o).kept hg (own_apart (p.alloc o) (h.own2.alloc o) (by decide))), (h.bel.alloc h.size o).trans hb, by have h1 := h.size; have h2 := hb.size; simp at h2; omega⟩
theorem DSt.app3 (h : DSt q w V aa cs Ds vs k1 A1 C1 k2 A2 C2 k3 A3 C3) {o : Obj} {w2 : World} {A : Option Addr} {C : Nat} {B : Option Addr} {Z E : Nat} {D : List Int} (ho : w2.ownsRow q 22 1 (.slice A (k3 + 1) C) (k3 + 1) (vs ++ [.slice B Z E])) (hb : Below q (V.alloc o) w2) (hg : (V.alloc o).grownBy w2 (Value.slice A3 k3 C3).ownBlock)
    (hD : V.ownsRow q 5 1 (.slice B Z E) Z (u8s D)) (hZ : Z ≤ 1000000) (hf : ∀ z ∈ D, Fits8 z) :
    DSt q w w2 aa cs (Ds ++ [D]) (vs ++ [.slice B Z E]) k1 A1 C1 k2 A2 C2 (k3 + 1) A C :=
  ⟨(h.own1.alloc o).kept hg (own_apart (h.own1.alloc o) (h.own3.alloc o) (by decide)), (h.own2.alloc o).kept hg (own_apart (h.own2.alloc o) (h.own3.alloc o) (by decide)), ho,
    (h.ds.snoc hD hZ hf).map (fun _ _ _ _ p => (p.alloc o).kept hg (own_apart (p.alloc o) (h.own3.alloc o) (by decide))), (h.bel.alloc h.size o).trans hb, by have h1 := h.size; have h2 := hb.size; simp at h2; omega⟩
end
/-- What is left: it came in, or lies in a row of the call's own. -/
def BKeep (q : Nat) (w V : World) (L : Option Addr) (n c : Nat) (ys : List Int) : Prop :=
  BIn w L n ys ∨ ∃ R r F zs i, V.ownsRow q 5 1 (.slice R r F) r (u8s zs) ∧ r ≤ 100000 ∧ i ≤ r ∧ Value.slice L n c = leftV R r F i ∧ ys = zs.drop i ∧ ∀ z ∈ zs, Fits8 z
theorem BKeep.bin {q : Nat} {w V : World} {L : Option Addr} {n c : Nat} {ys : List Int} (h : BKeep q w V L n c ys) (hq : q = w.heap.size) (hb : Below q w V) : BIn V L n ys := by
  rcases h with h | ⟨R, r, F, zs, i, ho, hr, hi, hL, rfl, hf⟩
  · exact h.below (by rw [← hq]; exact hb)
  · have h1 := own_bin ho (by unfold maxLen; omega) hf
    have h2 : n = r - i ∧ c = F - i := by unfold leftV at hL; injection hL with _ e1 e2; exact ⟨e1, e2⟩
    obtain ⟨rfl, rfl⟩ := h2
    exact left_bin h1 hi (own_capN ho) hL
structure DAt (f : Int → Int) (xs : List Int) (n : Nat) (P : List Rp) (k : Nat) (L : Option Addr) (n' c' : Nat) (ys : List Int) : Prop where
  eq : rpAll f xs = (rpAll f ys).map (P ++ ·)
  nil : L = none → n' = 0 ∧ c' = 0
  cap : n' ≤ c'
  len : ys.length = n'
  fity : ∀ z ∈ ys, Fits8 z
  room : k * 16 + n' ≤ n
  fits : ∀ p ∈ P, Fits32 p.a ∧ FitsU p.c
theorem DAt.next {f : Int → Int} {xs : List Int} {n : Nat} {P : List Rp} {k : Nat} {L : Option Addr} {n' c' : Nat} {ys : List Int} (h : DAt f xs n P k L n' c' ys) (hs : StepOk f ys) {R B : Option Addr} {r F Z : Nat} (hZ : (Z : Int) = pN f ys) (hr : r = n' - 16) (h16 : 16 ≤ n') (hZr : Z ≤ r) (hF : r ≤ F) (hn : R = none → r = 0 ∧ F = 0) (hB : .slice B (r - Z) (F - Z) = leftV R r F Z) :
    DAt f xs n (P ++ [rpOne f ys]) (k + 1) B (r - Z) (F - Z) (rpRest f ys) := by
  refine ⟨more_step h.eq hs, left_nil hZr hn hB, by omega, ?_, ?_, by have := h.room; omega, ?_⟩
  · unfold rpRest; rw [← hZ, Int.toNat_natCast, List.length_drop, h.len]; omega
  · intro z hz; unfold rpRest at hz; exact h.fity z (List.mem_of_mem_drop hz)
  · intro p hp
    rcases List.mem_append.1 hp with hp | hp
    · exact h.fits p hp
    · simp only [List.mem_cons, List.not_mem_nil, or_false] at hp
      subst hp
      exact ⟨pA_fits h.fity, pC_fits h.fity⟩
theorem four_ret {Q : Ending → World → Prop} {a : Act} {w : World} {v4 v5 v6 v7 : Value} (h4 : a.tmps.getD 4 undef = v4) (h5 : a.tmps.getD 5 undef = v5) (h6 : a.tmps.getD 6 undef = v6) (h7 : a.tmps.getD 7 undef = v7) (hd : a.defers = []) (h : Q (.returned (.tuple #[v4, v5, v6, v7])) w) : bodyPost Try.prog Try.f20 Q .ret a w := by
  subst h4 h5 h6 h7
  refine bodyPost_ret (v := .tuple #[a.tmps.getD 4 undef, a.tmps.getD 5 undef, a.tmps.getD 6 undef, a.tmps.getD 7 undef]) ?_ hd h
  simp [results, Try.results20, go_sem]

set_option maxHeartbeats 2000000 in
theorem dReplies_of (a : Option Addr) (n c : Nat) (xs : List Int) (v : Value) (f : Int → Int) (w : World) (hx : BIn w a n xs) (hnil : a = none → n = 0 ∧ c = 0) (hnc : n ≤ c) (hm : MIn w v f) (hn : n ≤ 100000) :
    Calls Try.prog 20 #[.slice a n c, v] w (RepGot w.heap.size w (rpList f xs) (rpIs f xs)) := by
  obtain ⟨R0, hR⟩ : ∃ K, K = rpList f xs := ⟨_, rfl⟩
  obtain ⟨B0, hB⟩ : ∃ K, K = rpIs f xs := ⟨_, rfl⟩
  obtain ⟨q, hq⟩ : ∃ q, q = w.heap.size := ⟨_, rfl⟩
  rw [← hR, ← hB, ← hq]
  have HF : Hid (R0 = rpList f xs ∧ B0 = rpIs f xs) := ⟨hR, hB⟩
  have H : Hid (BIn w a n xs ∧ (a = none → n = 0 ∧ c = 0) ∧ n ≤ c ∧ q = w.heap.size ∧ MIn w v f ∧ n ≤ 100000) := ⟨hx, hnil, hnc, hq, hm, hn⟩
  clear hx hnil hnc hR hB hm hn hq
  go_enter Try.func20, Try.ntmps20
  go_wp2
  go_loopw [0, 8, 9, 10] (fun s0 s1 s2 s3 wr => ∃ (P : List Rp) (vs : List Value) (k : Nat) (A1 : Option Addr) (C1 : Nat) (A2 : Option Addr) (C2 : Nat) (A3 : Option Addr) (C3 : Nat) (L : Option Addr) (n' c' : Nat) (ys : List Int), s0 = .slice L n' c' ∧ s1 = .slice A1 k C1 ∧ s2 = .slice A2 k C2 ∧ s3 = .slice A3 k C3 ∧ DSt q w wr (P.map Rp.a) (P.map Rp.c) (P.map Rp.d) vs k A1 C1 k A2 C2 k A3 C3 ∧ BKeep q w wr L n' c' ys ∧ DAt f xs n P k L n' c' ys)
    (fun s0 _ _ _ _ => match s0 with | .slice _ m _ => m | _ => 0)
  case atStart => exact ⟨[], [], 0, none, 0, none, 0, none, 0, a, n, c, xs, rfl, rfl, rfl, rfl, ⟨World.ownsRow_nil _ _ _ _, World.ownsRow_nil _ _ _ _, World.ownsRow_nil _ _ _ _, DsOwn.nil _ _, Below.refl _ _, by rw [H.out.2.2.2.1]; exact Nat.le_refl _⟩, .inl H.out.1, ⟨by simp, H.out.2.1, H.out.2.2.1, H.out.1.1, H.out.1.2.2.1, by omega, by simp⟩⟩
  case round =>
    obtain ⟨P, vs, k, A1, C1, A2, C2, A3, C3, L, n', c', ys, rfl, rfl, rfl, rfl, st, bk, at'⟩ := hrel
    have HS : Hid (DSt q w wr (P.map Rp.a) (P.map Rp.c) (P.map Rp.d) vs k A1 C1 k A2 C2 k A3 C3 ∧ DAt f xs n P k L n' c' ys ∧ BIn wr L n' ys) := ⟨st, at', bk.bin H.out.2.2.2.1 st.bel⟩
    have hkn : k ≤ 100000 ∧ n' ≤ 100000 := by have := H.out.2.2.2.2.2; have := at'.room; omega
    obtain ⟨hk, hn'⟩ := hkn
    clear st at' bk
    by_cases h0 : n' = 0
    · obtain ⟨r1, r2⟩ := more_end HS.out.2.1.eq (by rw [HS.out.2.1.len]; exact h0)
      have HR : Hid (R0 = P ∧ B0 = true) := ⟨HF.out.1.trans r1, HF.out.2.trans r2⟩
      subst h0
      clear r1 r2
      go_wp2
      refine four_ret rfl rfl rfl rfl rfl ?_
      rw [HR.out.1, HR.out.2]
      refine ⟨A1, k, C1, A2, C2, A3, C3, rfl, own_nin HS.out.1.own1 (by unfold maxLen; omega) ?_, own_nin HS.out.1.own2 (by unfold maxLen; omega) ?_, HS.out.1.ds.bsin HS.out.1.own3 (by omega), HS.out.1.bel⟩
      · intro z hz
        obtain ⟨p, hp, rfl⟩ := List.mem_map.1 hz
        exact WalkArith.wf_u32 (by have := (HS.out.2.1.fits p hp).1; unfold Fits32 at this; omega)
      · intro z hz
        obtain ⟨p, hp, rfl⟩ := List.mem_map.1 hz
        exact wfU (HS.out.2.1.fits p hp).2
    have hpos : (0 : Int) < n' := by omega
    have hbad : ¬ StepOk f ys → R0 = [] ∧ B0 = false := fun hs => by
      obtain ⟨r1, r2⟩ := more_bad HS.out.2.1.eq (by rw [HS.out.2.1.len]; exact h0) hs
      exact ⟨HF.out.1.trans r1, HF.out.2.trans r2⟩
    have HB : Hid (¬ StepOk f ys → R0 = [] ∧ B0 = false) := hbad
    clear hbad h0
    go_wp2_with fail
    refine (refTake_of L n' c' ys (some ⟨wr.heap.size, 0, none⟩) 3 3 rpW _ (HS.out.2.2.alloc _) HS.out.2.1.nil HS.out.2.1.cap (nin_rp rfl) hn' (by omega)).mono ?_
    rw [off_rp, HS.out.2.1.len]
    rintro e V ⟨A, kk, D, R, r, F, rfl, ow, ow3, bl⟩
    have bl' : Below wr.heap.size wr V := below_new bl
    have HV : Hid (DSt q w V (P.map Rp.a) (P.map Rp.c) (P.map Rp.d) vs k A1 C1 k A2 C2 k A3 C3) := HS.out.1.below bl'
    by_cases h16 : n' < 16
    · rw [decide_eq_false (by omega)]
      have HR : Hid (R0 = [] ∧ B0 = false) := HB.out (fun h => by have := h.1; rw [HS.out.2.1.len] at this; omega)
      clear ow ow3 bl bl' h16
      go_wp2
      refine four_ret rfl rfl rfl rfl rfl ?_
      rw [HR.out.1, HR.out.2]
      exact ⟨none, 0, 0, none, 0, none, 0, rfl, nin_none _ _, nin_none _ _, bsin_none _, HV.out.bel⟩
    rw [decide_eq_true (by omega)]
    rw [take_rp ys (by rw [HS.out.2.1.len]; omega)] at ow
    rw [rest_rp ys (by rw [HS.out.2.1.len]; omega)] at ow3
    have hr : r = n' - 16 := by have := ow3.1; rw [u8s_length, List.length_drop, HS.out.2.1.len] at this; omega
    obtain ⟨M, eM⟩ : ∃ M, M = pM ys := ⟨_, rfl⟩
    obtain ⟨x, ex⟩ : ∃ x, x = pA ys := ⟨_, rfl⟩
    obtain ⟨y, ey⟩ : ∃ y, y = pC ys := ⟨_, rfl⟩
    have hxf := pA_fits HS.out.2.1.fity
    have hyf := pC_fits HS.out.2.1.fity
    rw [← eM, ← ex, ← ey] at ow
    rw [← ex] at hxf
    rw [← ey] at hyf
    obtain ⟨g, rfl, hk3, hg, hkC, hc⟩ := own_at ow (by simp)
    have hk3' : kk = 3 := by simpa using hk3
    subst hk3'
    have c0 : V.cell? ⟨g, 0, none⟩ = some (.int .u64 M) := hc 0 (by simp)
    have c1 : V.cell? ⟨g, 1, none⟩ = some (.int .u64 x) := hc 1 (by simp)
    have c2 : V.cell? ⟨g, 2, none⟩ = some (.int .u64 y) := hc 2 (by simp)
    have hqs : q ≤ (wr.alloc (.cells #[.int .i64 4, .int .i64 4, .int .i64 8] 3)).heap.size := by have := HS.out.1.size; simp; omega
    have HT : Hid (M = pM ys ∧ x = pA ys ∧ y = pC ys ∧ Fits32 x ∧ FitsU y ∧ r = n' - 16 ∧ 16 ≤ n' ∧ V.ownsRow q 5 1 (.slice R r F) r (u8s (ys.drop 16)) ∧ V.ownsRow q 25 1 (.slice (some ⟨g, 0, none⟩) 3 D) 3 (kInts .u64 [M, x, y])) := ⟨eM, ex, ey, hxf, hyf, hr, by omega, own_lowerN ow3 hqs, own_lowerN ow hqs⟩
    have hwx : IntKind.u32.wrap x = x := by rw [IntKind.wrap_u32]; unfold Fits32 at hxf; omega
    have hl := H.out.2.2.2.2.1.look (by rw [← H.out.2.2.2.1]; exact HV.out.bel) y hyf
    have hpf : Fits32 (pN f ys) := by
      unfold pN
      split
      · exact H.out.2.2.2.2.1.1 _
      · unfold Fits32; omega
    obtain ⟨Z, eZ⟩ : ∃ Z : Nat, (Z : Int) = pN f ys := ⟨(pN f ys).toNat, Int.toNat_of_nonneg hpf.1⟩
    have HZ : Hid ((Z : Int) = pN f ys ∧ Z < 4294967296) := ⟨eZ, by have := hpf.2; omega⟩
    have hrb : r ≤ 100000 := by omega
    clear ow ow3 bl bl' hc hk3 hg hkC eM ex ey hxf hyf hr hqs hpf eZ h16 hpos
    by_cases hMm : M = rpMagic
    · have HM : Hid (M = rpMagic) := hMm
      have hM' : (M != 1732535960) = false := by rw [hMm]; rfl
      clear hMm
      by_cases hx0 : x = 0
      · have eN : f y = (Z : Int) := by rw [HZ.out.1, ← show pN f ys = f y by unfold pN; rw [← HT.out.2.1, ← HT.out.2.2.1, if_pos hx0]]
        rw [eN] at hl
        have hx' : (x == 0) = true := by rw [hx0]; rfl
        have hwz : IntKind.u64.wrap (Z : Int) = Z := by rw [IntKind.wrap_u64]; have := HZ.out.2; omega
        have HX : Hid (x = 0) := hx0
        clear hx0 eN
        go_upto_region 11 with fail
        by_cases hen : Z ≤ r
        · have hok : StepOk f ys := ⟨by rw [HS.out.2.1.len]; have := HT.out; omega, HT.out.1.symm.trans HM.out, by rw [HS.out.2.1.len, ← HZ.out.1]; have := HT.out; omega⟩
          have hle : (Z : Int) ≤ r := by omega
          obtain ⟨B, eB⟩ : ∃ B, .slice B (r - Z) (F - Z) = leftV R r F Z := ⟨_, rfl⟩
          have hsf := fun w => slice_front Try.underlying22 Try.one_bytes R r F Z (by have := own_capN HT.out.2.2.2.2.2.2.2.1; omega) w
          have hsb := fun w => slice_backU Try.underlying22 Try.one_bytes .i64 R r F Z hen w
          rw [← eB] at hsb
          have hwi : IntKind.i64.wrap (Z : Int) = Z := by rw [IntKind.wrap_i64]; omega
          have HN : Hid (DAt f xs n (P ++ [rpOne f ys]) (k + 1) B (r - Z) (F - Z) (rpRest f ys) ∧ Z ≤ r ∧ .slice B (r - Z) (F - Z) = leftV R r F Z ∧ r < n') := ⟨HS.out.2.1.next hok HZ.out.1 HT.out.2.2.2.2.2.1 HT.out.2.2.2.2.2.2.1 hen (own_capN HT.out.2.2.2.2.2.2.2.1) (own_nil HT.out.2.2.2.2.2.2.2.1) eB, hen, eB, by have := HT.out; omega⟩
          have hdf : ∀ z ∈ (ys.drop 16).take Z, Fits8 z := fun z hz => HS.out.2.1.fity z (List.mem_of_mem_drop (List.mem_of_mem_take hz))
          have hdg : ∀ z ∈ ys.drop 16, Fits8 z := fun z hz => HS.out.2.1.fity z (List.mem_of_mem_drop hz)
          have HD : Hid ((∀ z ∈ (ys.drop 16).take Z, Fits8 z) ∧ ∀ z ∈ ys.drop 16, Fits8 z) := ⟨hdf, hdg⟩
          clear hen hok eB hdf hdg c0
          go_upto_region 15 with (at_builtin; refine wpList_append_one Try.underlying42 Try.zero_u32 rfl (by decide) rfl (.tmp 49) (.tmp 54) rfl q A1 k C1 (kInts .u32 (P.map Rp.a)) rfl (HV.out.own1.alloc _) V.heap.size 1 (.int .u32 x) rfl (World.cell?_alloc_mark ..) rfl (by omega) (by have := HV.out.size; simp; omega) ?_; intro B1 D1 V1 ow1 bl1 gr1)
          have H1 : Hid (DSt q w V1 (P.map Rp.a ++ [x]) (P.map Rp.c) (P.map Rp.d) vs (k + 1) B1 D1 k A2 C2 k A3 C3 ∧ V1.ownsRow q 5 1 (.slice R r F) r (u8s (ys.drop 16)) ∧ V1.ownsRow q 25 1 (.slice (some ⟨g, 0, none⟩) 3 D) 3 (kInts .u64 [M, x, y])) := ⟨HV.out.app1 ow1 bl1 gr1, own_kept HT.out.2.2.2.2.2.2.2.1 HV.out.own1 (by decide) gr1, own_kept HT.out.2.2.2.2.2.2.2.2 HV.out.own1 (by decide) gr1⟩
          have d2 : V1.cell? ⟨g, 2, none⟩ = some (.int .u64 y) := by
            have hcl := H1.out.2.2.cells (g := g) rfl 2 (.int .u64 y) (by simp [kInts])
            rwa [Addr.add_mid, Nat.zero_add] at hcl
          clear ow1 bl1 gr1 c1 c2
          go_upto_region 16 with (at_builtin; refine wpList_append_one Try.underlying43 Try.zero_u64 rfl (by decide) rfl (.tmp 56) (.tmp 60) rfl q A2 k C2 (kInts .u64 (P.map Rp.c)) rfl (H1.out.1.own2.alloc _) V1.heap.size 1 (.int .u64 y) rfl (World.cell?_alloc_mark ..) rfl (by omega) (by have := H1.out.1.size; simp; omega) ?_; intro B2 D2 V2 ow1 bl1 gr1)
          have H2 : Hid (DSt q w V2 (P.map Rp.a ++ [x]) (P.map Rp.c ++ [y]) (P.map Rp.d) vs (k + 1) B1 D1 (k + 1) B2 D2 k A3 C3 ∧ V2.ownsRow q 5 1 (.slice R r F) r (u8s (ys.drop 16))) := ⟨H1.out.1.app2 ow1 bl1 gr1, own_kept H1.out.2.1 H1.out.1.own2 (by decide) gr1⟩
          clear ow1 bl1 gr1 d2
          have HY : Hid (BIn V2 R Z ((ys.drop 16).take Z) ∧ (R = none → Z = 0 ∧ F = 0)) := ⟨((own_bin H2.out.2 (by unfold maxLen; omega) HD.out.2).n.front Z (by have := HN.out; omega)).b, fun e => by have h1 := own_nil H2.out.2 e; have h2 := HN.out.2.1; omega⟩
          go_upto_region 17 with (at_builtin; refine wpList_append_bin rfl (.tmp 62) (.tmp 66) rfl V2.heap.size none 0 0 [] rfl (World.ownsRow_nil _ _ _ _) R Z F ((ys.drop 16).take Z) rfl HY.out.1 HY.out.2 (by omega) (Nat.le_refl _) ?_; intro B3 D3 V3 ow1 bl1; simp only [Nat.zero_add, List.nil_append] at ow1 ⊢)
          have H3 : Hid (DSt q w V3 (P.map Rp.a ++ [x]) (P.map Rp.c ++ [y]) (P.map Rp.d) vs (k + 1) B1 D1 (k + 1) B2 D2 k A3 C3 ∧ V3.ownsRow q 5 1 (.slice R r F) r (u8s (ys.drop 16)) ∧ V3.ownsRow q 5 1 (.slice B3 Z D3) Z (u8s ((ys.drop 16).take Z))) := ⟨H2.out.1.below bl1, own_belowN H2.out.2 bl1 (Nat.le_refl _), own_lowerN ow1 H2.out.1.size⟩
          clear ow1 bl1
          go_upto_region 18 with (at_builtin; refine wpList_append_one Try.underlying44 Try.zero_bytes rfl (by decide) rfl (.tmp 68) (.tmp 70) rfl q A3 k C3 vs rfl (H3.out.1.own3.alloc _) V3.heap.size 1 (.slice B3 Z D3) rfl (World.cell?_alloc_mark ..) rfl (by omega) (by have := H3.out.1.size; simp; omega) ?_; intro B4 D4 V4 ow1 bl1 gr1)
          have H4 : Hid (DSt q w V4 ((P ++ [rpOne f ys]).map Rp.a) ((P ++ [rpOne f ys]).map Rp.c) ((P ++ [rpOne f ys]).map Rp.d) (vs ++ [.slice B3 Z D3]) (k + 1) B1 D1 (k + 1) B2 D2 (k + 1) B4 D4 ∧ V4.ownsRow q 5 1 (.slice R r F) r (u8s (ys.drop 16))) := by
            have e1 : (P ++ [rpOne f ys]).map Rp.a = P.map Rp.a ++ [x] := by rw [List.map_append, HT.out.2.1]; rfl
            have e2 : (P ++ [rpOne f ys]).map Rp.c = P.map Rp.c ++ [y] := by rw [List.map_append, HT.out.2.2.1]; rfl
            have e3 : (P ++ [rpOne f ys]).map Rp.d = P.map Rp.d ++ [(ys.drop 16).take Z] := by rw [List.map_append]; simp only [List.map_cons, List.map_nil, rpOne]; rw [← HZ.out.1, Int.toNat_natCast]
            rw [e1, e2, e3]
            exact ⟨H3.out.1.app3 ow1 bl1 gr1 H3.out.2.2 (by have := HN.out; omega) HD.out.1, own_kept H3.out.2.1 H3.out.1.own3 (by decide) gr1⟩
          have HK : Hid (BKeep q w V4 B (r - Z) (F - Z) (rpRest f ys)) := .inr ⟨R, r, F, ys.drop 16, Z, H4.out.2, by omega, HN.out.2.1, HN.out.2.2.1, by unfold rpRest; rw [← HZ.out.1, Int.toNat_natCast, List.drop_drop], HD.out.2⟩
          clear ow1 bl1 gr1
          go_wp2
          go_roundw
          case rel => exact ⟨P ++ [rpOne f ys], vs ++ [.slice B3 Z D3], k + 1, B1, D1, B2, D2, B4, D4, B, r - Z, F - Z, rpRest f ys, rfl, rfl, rfl, rfl, H4.out.1, HK.out, HN.out.1⟩
          case measure => have := HN.out.2.2.2; simp; omega
        · have HR : Hid (R0 = [] ∧ B0 = false) := HB.out (fun h => by have h1 := h.2.2; rw [HS.out.2.1.len, ← HZ.out.1] at h1; have := HT.out; omega)
          have hlt : (r : Int) < Z := by omega
          clear hen
          go_wp2
          refine four_ret rfl rfl rfl rfl rfl ?_
          rw [HR.out.1, HR.out.2]
          exact ⟨none, 0, 0, none, 0, none, 0, rfl, nin_none _ _, nin_none _ _, bsin_none _, HV.out.bel⟩
      · have eN : (Z : Int) = 0 := by rw [HZ.out.1]; unfold pN; rw [← HT.out.2.1, if_neg hx0]
        have hZ0 : Z = 0 := by omega
        have hx' : (x == 0) = false := by simp [hx0]
        have HX : Hid (Z = 0) := hZ0
        clear hx0 eN hl
        go_upto_region 11 with fail
        have hz0 : ((0 : Nat) : Int) = 0 := rfl
        rw [show (Value.int .u64 0) = .int .u64 (Z : Int) by rw [HX.out]; rfl]
        clear hZ0 hz0
        by_cases hen : Z ≤ r
        · have hok : StepOk f ys := ⟨by rw [HS.out.2.1.len]; have := HT.out; omega, HT.out.1.symm.trans HM.out, by rw [HS.out.2.1.len, ← HZ.out.1]; have := HT.out; omega⟩
          have hle : (Z : Int) ≤ r := by omega
          obtain ⟨B, eB⟩ : ∃ B, .slice B (r - Z) (F - Z) = leftV R r F Z := ⟨_, rfl⟩
          have hsf := fun w => slice_front Try.underlying22 Try.one_bytes R r F Z (by have := own_capN HT.out.2.2.2.2.2.2.2.1; omega) w
          have hsb := fun w => slice_backU Try.underlying22 Try.one_bytes .i64 R r F Z hen w
          rw [← eB] at hsb
          have hwi : IntKind.i64.wrap (Z : Int) = Z := by rw [IntKind.wrap_i64]; omega
          have HN : Hid (DAt f xs n (P ++ [rpOne f ys]) (k + 1) B (r - Z) (F - Z) (rpRest f ys) ∧ Z ≤ r ∧ .slice B (r - Z) (F - Z) = leftV R r F Z ∧ r < n') := ⟨HS.out.2.1.next hok HZ.out.1 HT.out.2.2.2.2.2.1 HT.out.2.2.2.2.2.2.1 hen (own_capN HT.out.2.2.2.2.2.2.2.1) (own_nil HT.out.2.2.2.2.2.2.2.1) eB, hen, eB, by have := HT.out; omega⟩
          have hdf : ∀ z ∈ (ys.drop 16).take Z, Fits8 z := fun z hz => HS.out.2.1.fity z (List.mem_of_mem_drop (List.mem_of_mem_take hz))
          have hdg : ∀ z ∈ ys.drop 16, Fits8 z := fun z hz => HS.out.2.1.fity z (List.mem_of_mem_drop hz)
          have HD : Hid ((∀ z ∈ (ys.drop 16).take Z, Fits8 z) ∧ ∀ z ∈ ys.drop 16, Fits8 z) := ⟨hdf, hdg⟩
          clear hen hok eB hdf hdg c0
          go_upto_region 15 with (at_builtin; refine wpList_append_one Try.underlying42 Try.zero_u32 rfl (by decide) rfl (.tmp 49) (.tmp 54) rfl q A1 k C1 (kInts .u32 (P.map Rp.a)) rfl (HV.out.own1.alloc _) V.heap.size 1 (.int .u32 x) rfl (World.cell?_alloc_mark ..) rfl (by omega) (by have := HV.out.size; simp; omega) ?_; intro B1 D1 V1 ow1 bl1 gr1)
          have H1 : Hid (DSt q w V1 (P.map Rp.a ++ [x]) (P.map Rp.c) (P.map Rp.d) vs (k + 1) B1 D1 k A2 C2 k A3 C3 ∧ V1.ownsRow q 5 1 (.slice R r F) r (u8s (ys.drop 16)) ∧ V1.ownsRow q 25 1 (.slice (some ⟨g, 0, none⟩) 3 D) 3 (kInts .u64 [M, x, y])) := ⟨HV.out.app1 ow1 bl1 gr1, own_kept HT.out.2.2.2.2.2.2.2.1 HV.out.own1 (by decide) gr1, own_kept HT.out.2.2.2.2.2.2.2.2 HV.out.own1 (by decide) gr1⟩
          have d2 : V1.cell? ⟨g, 2, none⟩ = some (.int .u64 y) := by
            have hcl := H1.out.2.2.cells (g := g) rfl 2 (.int .u64 y) (by simp [kInts])
            rwa [Addr.add_mid, Nat.zero_add] at hcl
          clear ow1 bl1 gr1 c1 c2
          go_upto_region 16 with (at_builtin; refine wpList_append_one Try.underlying43 Try.zero_u64 rfl (by decide) rfl (.tmp 56) (.tmp 60) rfl q A2 k C2 (kInts .u64 (P.map Rp.c)) rfl (H1.out.1.own2.alloc _) V1.heap.size 1 (.int .u64 y) rfl (World.cell?_alloc_mark ..) rfl (by omega) (by have := H1.out.1.size; simp; omega) ?_; intro B2 D2 V2 ow1 bl1 gr1)
          have H2 : Hid (DSt q w V2 (P.map Rp.a ++ [x]) (P.map Rp.c ++ [y]) (P.map Rp.d) vs (k + 1) B1 D1 (k + 1) B2 D2 k A3 C3 ∧ V2.ownsRow q 5 1 (.slice R r F) r (u8s (ys.drop 16))) := ⟨H1.out.1.app2 ow1 bl1 gr1, own_kept H1.out.2.1 H1.out.1.own2 (by decide) gr1⟩
          clear ow1 bl1 gr1 d2
          have HY : Hid (BIn V2 R Z ((ys.drop 16).take Z) ∧ (R = none → Z = 0 ∧ F = 0)) := ⟨((own_bin H2.out.2 (by unfold maxLen; omega) HD.out.2).n.front Z (by have := HN.out; omega)).b, fun e => by have h1 := own_nil H2.out.2 e; have h2 := HN.out.2.1; omega⟩
          go_upto_region 17 with (at_builtin; refine wpList_append_bin rfl (.tmp 62) (.tmp 66) rfl V2.heap.size none 0 0 [] rfl (World.ownsRow_nil _ _ _ _) R Z F ((ys.drop 16).take Z) rfl HY.out.1 HY.out.2 (by omega) (Nat.le_refl _) ?_; intro B3 D3 V3 ow1 bl1; simp only [Nat.zero_add, List.nil_append] at ow1 ⊢)
          have H3 : Hid (DSt q w V3 (P.map Rp.a ++ [x]) (P.map Rp.c ++ [y]) (P.map Rp.d) vs (k + 1) B1 D1 (k + 1) B2 D2 k A3 C3 ∧ V3.ownsRow q 5 1 (.slice R r F) r (u8s (ys.drop 16)) ∧ V3.ownsRow q 5 1 (.slice B3 Z D3) Z (u8s ((ys.drop 16).take Z))) := ⟨H2.out.1.below bl1, own_belowN H2.out.2 bl1 (Nat.le_refl _), own_lowerN ow1 H2.out.1.size⟩
          clear ow1 bl1
          go_upto_region 18 with (at_builtin; refine wpList_append_one Try.underlying44 Try.zero_bytes rfl (by decide) rfl (.tmp 68) (.tmp 70) rfl q A3 k C3 vs rfl (H3.out.1.own3.alloc _) V3.heap.size 1 (.slice B3 Z D3) rfl (World.cell?_alloc_mark ..) rfl (by omega) (by have := H3.out.1.size; simp; omega) ?_; intro B4 D4 V4 ow1 bl1 gr1)
          have H4 : Hid (DSt q w V4 ((P ++ [rpOne f ys]).map Rp.a) ((P ++ [rpOne f ys]).map Rp.c) ((P ++ [rpOne f ys]).map Rp.d) (vs ++ [.slice B3 Z D3]) (k + 1) B1 D1 (k + 1) B2 D2 (k + 1) B4 D4 ∧ V4.ownsRow q 5 1 (.slice R r F) r (u8s (ys.drop 16))) := by
            have e1 : (P ++ [rpOne f ys]).map Rp.a = P.map Rp.a ++ [x] := by rw [List.map_append, HT.out.2.1]; rfl
            have e2 : (P ++ [rpOne f ys]).map Rp.c = P.map Rp.c ++ [y] := by rw [List.map_append, HT.out.2.2.1]; rfl
            have e3 : (P ++ [rpOne f ys]).map Rp.d = P.map Rp.d ++ [(ys.drop 16).take Z] := by rw [List.map_append]; simp only [List.map_cons, List.map_nil, rpOne]; rw [← HZ.out.1, Int.toNat_natCast]
            rw [e1, e2, e3]
            exact ⟨H3.out.1.app3 ow1 bl1 gr1 H3.out.2.2 (by have := HN.out; omega) HD.out.1, own_kept H3.out.2.1 H3.out.1.own3 (by decide) gr1⟩
          have HK : Hid (BKeep q w V4 B (r - Z) (F - Z) (rpRest f ys)) := .inr ⟨R, r, F, ys.drop 16, Z, H4.out.2, by omega, HN.out.2.1, HN.out.2.2.1, by unfold rpRest; rw [← HZ.out.1, Int.toNat_natCast, List.drop_drop], HD.out.2⟩
          clear ow1 bl1 gr1
          go_wp2
          go_roundw
          case rel => exact ⟨P ++ [rpOne f ys], vs ++ [.slice B3 Z D3], k + 1, B1, D1, B2, D2, B4, D4, B, r - Z, F - Z, rpRest f ys, rfl, rfl, rfl, rfl, H4.out.1, HK.out, HN.out.1⟩
          case measure => have := HN.out.2.2.2; simp; omega
        · have HR : Hid (R0 = [] ∧ B0 = false) := HB.out (fun h => by have h1 := h.2.2; rw [HS.out.2.1.len, ← HZ.out.1] at h1; have := HT.out; omega)
          have hlt : (r : Int) < Z := by omega
          clear hen
          go_wp2
          refine four_ret rfl rfl rfl rfl rfl ?_
          rw [HR.out.1, HR.out.2]
          exact ⟨none, 0, 0, none, 0, none, 0, rfl, nin_none _ _, nin_none _ _, bsin_none _, HV.out.bel⟩
    · have HR : Hid (R0 = [] ∧ B0 = false) := HB.out (fun h => hMm (HT.out.1.trans h.2.1))
      have hM' : (M != 1732535960) = true := by unfold rpMagic at hMm; simp [hMm]
      clear hMm
      go_wp2
      refine four_ret rfl rfl rfl rfl rfl ?_
      rw [HR.out.1, HR.out.2]
      exact ⟨none, 0, 0, none, 0, none, 0, rfl, nin_none _ _, nin_none _ _, bsin_none _, HV.out.bel⟩
/-- There are not many of them. -/
theorem rpAll_few (f : Int → Int) : ∀ (m : Nat) (xs : List Int) (L : List Rp), xs.length ≤ m → rpAll f xs = some L → L.length ≤ m := by
  intro m
  induction m with
  | zero =>
    intro xs L h e
    obtain rfl := List.length_eq_zero_iff.1 (Nat.le_zero.1 h)
    rw [rpAll_nil] at e
    cases e
    exact Nat.le_refl _
  | succ m ih =>
    intro xs L h e
    by_cases h0 : xs.length = 0
    · obtain rfl := List.length_eq_zero_iff.1 h0
      rw [rpAll_nil] at e
      cases e
      simp
    · by_cases hs : StepOk f xs
      · rw [rpAll_step hs] at e
        cases hr : rpAll f (rpRest f xs) with
        | none => rw [hr] at e; cases e
        | some K =>
          rw [hr] at e
          cases e
          have := ih (rpRest f xs) K (by unfold rpRest; rw [List.length_drop]; omega) hr
          simp
          omega
      · rw [rpAll_bad h0 hs] at e
        cases e
theorem rp_few (f : Int → Int) (xs : List Int) (h : xs.length ≤ 1000000) : (rpList f xs).length ≤ 1000000 := by
  unfold rpList
  cases hr : rpAll f xs with
  | none => simp
  | some K => exact Nat.le_trans (rpAll_few f xs.length xs K (Nat.le_refl _) hr) h
end Go.Proofs.Ytlfmdplaoalahaa
