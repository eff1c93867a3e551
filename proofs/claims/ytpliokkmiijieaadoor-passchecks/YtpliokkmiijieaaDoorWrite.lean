/- What one call of Write does: the hash takes the bytes, one behind the other; nothing else that was there is touched. -/
import Derived.Test.YtpliokkmiijieaaDoorHash
namespace Go.Proofs.YtpliokkmiijieaaDoor
open Go.RowKit
set_option linter.unusedVariables false
set_option maxRecDepth 4000

/-- A list of bytes that lies in the world, outside block g. -/
def LIn (w : World) (g : Nat) (a : Option Addr) (len : Nat) (zs : List Int) : Prop :=
  zs.length = len ∧ len ≤ maxLen ∧ (∀ z ∈ zs, Fits8 z) ∧
  (len = 0 ∨ ∃ b off, a = some ⟨b, off, none⟩ ∧ b ≠ g ∧ ∀ i, i < len → w.cell? ⟨b, off + i, none⟩ = some (.int .u8 (zs.getD i 0)))
theorem LIn.only {w w' : World} {g : Nat} {a : Option Addr} {len : Nat} {zs : List Int} (h : LIn w g a len zs) (ho : Only g w w') : LIn w' g a len zs := by
  obtain ⟨h1, h2, h3, h4⟩ := h
  refine ⟨h1, h2, h3, ?_⟩
  rcases h4 with h4 | ⟨b, off, ha, hb, hc⟩
  · exact .inl h4
  · exact .inr ⟨b, off, ha, hb, fun i hi => ho.cell (hc i hi) hb⟩
def lenOf : Value → Nat | .slice _ n _ => n | _ => 0

theorem splice_fits {L zs : List Int} {o : Nat} (h : ∀ z ∈ L, Fits8 z) (hz : ∀ z ∈ zs, Fits8 z) : ∀ z ∈ splice L o zs, Fits8 z := by
  intro z hz'
  simp only [splice, List.mem_append] at hz'
  rcases hz' with h1 | h1 | h1
  · exact h z (List.mem_of_mem_take h1)
  · exact hz z h1
  · exact h z (List.mem_of_mem_drop h1)
theorem part_next {w2 : World} {g o : Nat} {s : St} {part : List Int} (h : s.Wf) (hb : Blk w2 g (splice (hashCells s) (8 + o) (u8s part)) 100) (hl : o + part.length ≤ 64) (hf : ∀ z ∈ part, Fits8 z) : HIn w2 g ⟨s.S, splice s.R o part, s.T⟩ := by
  rw [hash_splice h o part hl] at hb
  exact ⟨hb, h.1, h.2.1, by show (splice s.R o part).length = 64; rw [length_splice _ _ _ (by rw [h.2.2.1]; exact hl), h.2.2.1], splice_fits h.2.2.2 hf⟩
theorem taken_next {w2 : World} {g T : Nat} {S R : List Int} (h : HIn w2 g ⟨S, R, T⟩) (m : Nat) : HIn (w2.setCell ⟨g, 72, none⟩ (.int .u64 ((T : Int) + m))) g ⟨S, R, T + m⟩ := by
  refine ⟨?_, h.2⟩
  have := h.1.set 72 (.int .u64 ((T + m : Nat) : Int))
  rw [hash_setT h.2] at this
  simpa using this
theorem state_next {w4 : World} {g T : Nat} {S R : List Int} (h : HIn w4 g ⟨S, R, T⟩) : HIn (w4.setCells g 0 (u32s (mixI S R))) g ⟨mixI S R, R, T⟩ := by
  have hl : (mixI S R).length = 8 := mixI_length _ h.2.1
  refine ⟨?_, hl, mixI_fits _ h.2.1 h.2.2.1, h.2.2.2.1, h.2.2.2.2⟩
  have := Blk.setCells (u32s (mixI S R)) 0 w4 _ h.1 (by rw [u32s_length, hl, hash_len h.2]; omega)
  rw [hash_setS h.2 _ hl] at this
  exact this
theorem rest_add {wr w3 : World} {g b off r m : Nat} {zr : List Int} (h : LIn wr g (some ⟨b, off, none⟩) r zr) (hm : m ≤ r) (hbg : b ≠ g) (hc : ∀ i, i < r → wr.cell? ⟨b, off + i, none⟩ = some (.int .u8 (zr.getD i 0))) (ho : Only g wr w3) :
    LIn w3 g (some ⟨b, off + m, none⟩) (r - m) (zr.drop m) := by
  refine ⟨by simp [h.1], by have := h.2.1; omega, fun z hz => h.2.2.1 z (List.mem_of_mem_drop hz), .inr ⟨b, off + m, rfl, hbg, fun i hi => ?_⟩⟩
  rw [Nat.add_assoc, ho.cell (hc (m + i) (by omega)) hbg]
  simp [List.getD, List.getElem?_drop]
theorem rest_none {wr w3 : World} {g r m : Nat} {a a' : Option Addr} {zr : List Int} (h : LIn wr g a r zr) (hm : r ≤ m) : LIn w3 g a' (r - m) (zr.drop m) :=
  ⟨by simp [h.1], by have := h.2.1; omega, fun z hz => h.2.2.1 z (List.mem_of_mem_drop hz), .inl (by omega)⟩
theorem rest_if {wr w3 : World} {g b off r m c : Nat} {zr : List Int} (h : LIn wr g (some ⟨b, off, none⟩) r zr) (hm : m ≤ r) (hbg : b ≠ g) (hc : ∀ i, i < r → wr.cell? ⟨b, off + i, none⟩ = some (.int .u8 (zr.getD i 0))) (ho : Only g wr w3) (hrc : r ≤ c) :
    LIn w3 g (if c = m then some ⟨b, off, none⟩ else some ⟨b, off + m, none⟩) (r - m) (zr.drop m) := by
  split
  · exact rest_none h (by omega)
  · exact rest_add h hm hbg hc ho
theorem take_more {n k r m : Nat} {zs zr part : List Int} {s s' : St} (hr : r = n - k ∧ zr = zs.drop k ∧ s' = takeI s (zs.take k)) (hp : part = zr.take m) : takeI s (zs.take (k + m)) = takeI s' part ∧ zs.drop (k + m) = zr.drop m := by
  obtain ⟨_, rfl, rfl⟩ := hr
  subst hp
  rw [← takeI_append]
  exact ⟨by rw [List.take_add], by rw [List.drop_drop]⟩

theorem HIn.drew {w : World} {g : Nat} {s : St} (h : HIn w g s) : HIn w.drew g s := h
theorem write_close {n k r m C g : Nat} {zs zr part : List Int} {s s' : St} {w w3 : World} {A : Option Addr} (hn : k + m ≤ n ∧ n - (k + m) = r - m) (hr : r = n - k ∧ zr = zs.drop k ∧ s' = takeI s (zs.take k)) (hp : part = zr.take m) (hrc : r - m ≤ C)
    (hL : LIn w3 g A (r - m) (zr.drop m)) (hS : HIn w3 g (takeI s' part)) (hO : Only g w w3) :
    ∃ k a' c', k ≤ n ∧ n - k ≤ c' ∧ Value.slice A (r - m) C = .slice a' (n - k) c' ∧ LIn w3 g a' (n - k) (zs.drop k) ∧ HIn w3 g (takeI s (zs.take k)) ∧ Only g w w3 := by
  have h := take_more hr hp
  refine ⟨k + m, A, C, hn.1, by omega, by rw [hn.2], ?_, by rw [h.1]; exact hS, hO⟩
  rw [hn.2, h.2]; exact hL

set_option maxHeartbeats 1000000 in
theorem write_of (g n c : Nat) (a : Option Addr) (zs : List Int) (s : St) (w : World) (hb : HIn w g s) (hl : LIn w g a n zs) (hK : KIn w) (hg : 1 ≠ g) (hT : s.T + n < 4611686018427387904) (hc : n ≤ c) :
    Calls Tryd.prog 41 #[.pointer (some ⟨g, 0, none⟩), .slice a n c] w fun en w' => en = .returned (.tuple #[]) ∧ HIn w' g (takeI s zs) ∧ Only g w w' := by
  have H : Hid (KIn w ∧ LIn w g a n zs ∧ s.T + n < 4611686018427387904) := ⟨hK, hl, hT⟩
  go_enter Tryd.func41, Tryd.ntmps41
  go_wp2
  go_loopw [1] (fun b wr => ∃ k a' c', k ≤ n ∧ n - k ≤ c' ∧ b = .slice a' (n - k) c' ∧ LIn wr g a' (n - k) (zs.drop k) ∧ HIn wr g (takeI s (zs.take k)) ∧ Only g w wr)
    (fun b _ => lenOf b)
  case atStart => exact ⟨0, a, c, by omega, hc, rfl, hl, hb, Only.refl _ _⟩
  case round =>
    clear hb hl hK hT
    obtain ⟨k, a', c', hk, hkc, rfl, hl, hh, ho⟩ := hrel
    obtain ⟨r, hr⟩ : ∃ r, r = n - k := ⟨_, rfl⟩
    obtain ⟨zr, hzr⟩ : ∃ zr, zr = zs.drop k := ⟨_, rfl⟩
    obtain ⟨s', hs'⟩ : ∃ s', s' = takeI s (zs.take k) := ⟨_, rfl⟩
    rw [← hr] at hl hkc ⊢
    have HKC : Hid (r ≤ c') := hkc
    clear hkc
    rw [← hzr] at hl
    rw [← hs'] at hh
    have HR : Hid (r = n - k ∧ zr = zs.drop k ∧ s' = takeI s (zs.take k)) := ⟨hr, hzr, hs'⟩
    have HT : Hid (s'.T + r < 4611686018427387904) := by
      have h1 := H.out.2.2
      have h2 := H.out.2.1.1
      show _ < _
      rw [hs', takeI_T, hr]
      simp
      omega
    clear hr hzr hs'
    by_cases h0 : r = 0
    · subst h0
      go_wp2
      go_end0
      refine ⟨rfl, ?_, ho⟩
      have e : zs.take k = zs := List.take_of_length_le (by rw [H.out.2.1.1]; have := HR.out.1; omega)
      have e2 := HR.out.2.2
      rw [e] at e2
      rw [← e2]
      exact hh
    · have hpos : (0 : Int) < r := by omega
      obtain ⟨b, off, ha, hbg, hcell⟩ := hl.2.2.2.resolve_left h0
      subst ha
      have tk := hh.taken
      obtain ⟨T, hTe⟩ : ∃ T, T = s'.T := ⟨_, rfl⟩
      obtain ⟨o, hoe⟩ : ∃ o, o = T % 64 := ⟨_, rfl⟩
      rw [← hTe] at tk
      have HO : Hid (T = s'.T ∧ o = T % 64) := ⟨hTe, hoe⟩
      have ho64 : o < 64 := by omega
      have t1 : (T : Int) % 64 = o := by omega
      have t2 : (T : Int).tmod 64 = o := by rw [Int.tmod_eq_emod_of_nonneg (by omega)]; exact t1
      have T0 : (0 : Int) ≤ T := by omega
      have T1 : (T : Int) ≤ 4611686018427387903 := by have := HT.out; rw [← hTe] at this; omega
      clear hTe hoe
      have hsl := fun wr => run_part_l (P := Tryd.prog) Tryd.underlying80 Tryd.byte1 wr g 8 .u64 (o : Int) o rfl ho64
      have hr1 : (r : Int) ≤ 9223372036854775807 := by have := hl.2.1; unfold maxLen at this; omega
      have HC : Hid (∀ i, i < r → wr.cell? ⟨b, off + i, none⟩ = some (.int .u8 (zr.getD i 0))) := hcell
      clear hcell
      go_wp2
      refine region_tail 10 (by kernel_rfl) (by kernel_rfl) ?_
      simp only [List.take_succ_cons, List.take_zero, List.drop_succ_cons, List.drop_zero]
      still_step
      still_step
      still_step
      still_step
      still_step
      still_step
      still_step
      still_step
      still_step
      still_step
      refine wpStill_nil ?_
      obtain ⟨m, hm⟩ : ∃ m, m = min r (64 - o) := ⟨_, rfl⟩
      obtain ⟨part, hpart⟩ : ∃ part, part = zr.take m := ⟨_, rfl⟩
      have hml : part.length = m := by rw [hpart, List.length_take, hl.1]; omega
      refine wpList_copy_only rfl (.tmp 16) (.tmp 17) 22 22 rfl 5 Tryd.underlying22 Tryd.byte1 g (8 + o) (64 - o) (64 - o) ⟨b, off, none⟩ r c' rfl rfl (hashCells s') 100 hh.1.drew (u8s part) (by rw [u8s_length, hml]; exact hm) ?_ (by rw [u8s_length, hml, hash_len hh.2]; omega) (u8s_one _) ?_
      · intro j v hj
        have hjm : j < m := by
          have := (List.getElem?_eq_some_iff.1 hj).1
          rwa [u8s_length, hml] at this
        rw [Addr.add_mid]
        show wr.cell? _ = _
        rw [HC.out j (by omega), ← hj, hpart]
        have hzl : j < zr.length := by rw [hl.1]; omega
        simp [u8s, List.getD, hjm, hzl]
      intro w2 hb2 ho2
      rw [u8s_length, hml]
      have hs2 : HIn w2 g ⟨s'.S, splice s'.R o part, s'.T⟩ := part_next hh.2 hb2 (by omega) (fun z hz => hl.2.2.1 z (List.mem_of_mem_take (hpart ▸ hz)))
      have hfin : takeI s' part = if (T + m) % 64 = 0 then ⟨mixI s'.S (splice s'.R o part), splice s'.R o part, T + m⟩ else ⟨s'.S, splice s'.R o part, T + m⟩ := by
        have := take_part part s' (by omega) hh.2.2.2.1 (by rw [← HO.out.1, ← HO.out.2]; omega)
        rw [← HO.out.1, ← HO.out.2, hml] at this
        exact this
      have HF : Hid (takeI s' part = if (T + m) % 64 = 0 then ⟨mixI s'.S (splice s'.R o part), splice s'.R o part, T + m⟩ else ⟨s'.S, splice s'.R o part, T + m⟩) := hfin
      have HM : Hid (m = min r (64 - o) ∧ part = zr.take m ∧ part.length = m ∧ m ≤ r ∧ 0 < m) := ⟨hm, hpart, hml, by omega, by omega⟩
      have m0 : (0 : Int) ≤ m := by omega
      have m1 : (m : Int) ≤ r := by omega
      have m2 : (m : Int) ≤ 64 := by omega
      rw [show s'.T = T from HO.out.1.symm] at hs2
      clear hm hpart hml hb2 tk hsl hfin
      have tk2 := hs2.taken
      have fz2 := hs2.1.frozen 72
      have hs3 := taken_next hs2 m
      have ho3 : Only g wr (w2.setCell ⟨g, 72, none⟩ (.int .u64 ((T : Int) + m))) := (Only.drew (Only.refl g wr)).trans (ho2.setCell 72 _)
      have hkn : k + m ≤ n := by have := HR.out.1; have := HM.out.2.2.2.1; omega
      have hnk : n - (k + m) = r - m := by have := HR.out.1; omega
      have HN : Hid (k + m ≤ n ∧ n - (k + m) = r - m) := ⟨hkn, hnk⟩
      clear hkn hnk
      have HS3 : Hid (HIn (w2.setCell ⟨g, 72, none⟩ (.int .u64 ((T : Int) + m))) g ⟨s'.S, splice s'.R o part, T + m⟩ ∧ Only g wr (w2.setCell ⟨g, 72, none⟩ (.int .u64 ((T : Int) + m)))) := ⟨hs3, ho3⟩
      clear hs3 ho3
      go_wp2
      case roundEnd =>
        have hne : ((T : Int) + m) % 64 ≠ 0 := by
          have : (((T : Int) + m) % 64 == 0) = false := by assumption
          simpa using this
        refine ⟨write_close HN.out HR.out HM.out.2.1 (by have := HKC.out; omega) (rest_if hl HM.out.2.2.2.1 hbg HC.out HS3.out.2 HKC.out) ?_ (ho.trans HS3.out.2), ?_⟩
        · rw [HF.out, if_neg (by omega)]; exact HS3.out.1
        · simp only [lenOf]; have := HM.out.2.2.2; omega
      all_goals
        have heq : ((T : Int) + m) % 64 = 0 := by
          have : (((T : Int) + m) % 64 == 0) = true := by assumption
          simpa using this
        have HE : Hid ((T + m) % 64 = 0) := by have : (T + m) % 64 = 0 := by omega
                                               exact this
        clear heq fz2 tk2 hs2
        generalize hw3 : w2.setCell _ _ = w3
        rw [hw3] at HS3
        clear hw3 ho2
        have hw := HS3.out.1.2
        refine wp_region_any (by kernel_rfl) ?_
        change wpAny _ _ _ _ _ _ _ (World.drew _)
        refine wpAny_take (i := 0) (oi := { dst := some 37, op := .move (.tmp 0), type := 82, pos := "sha.go:52", after := #[], guard := none }) (v := .pointer (some ⟨g, 0, none⟩)) rfl (by kernel_rfl) (by kernel_rfl) (by kernel_rfl) (fun _ _ _ h => h) (Or.inl ⟨by rfl, fun w => by (go_simp; try with_reducible rfl)⟩) ?_
        simp only [Act.put, List.setIfInBounds_toArray, List.set_cons_zero, List.set_cons_succ]
        refine wpAny_take (i := 1) (oi := { dst := some 38, op := .move (.tmp 0), type := 82, pos := "sha.go:52", after := #[], guard := none }) (v := .pointer (some ⟨g, 0, none⟩)) rfl (by kernel_rfl) (by kernel_rfl) (by kernel_rfl) (fun _ _ _ h => h) (Or.inl ⟨by rfl, fun w => by (go_simp; try with_reducible rfl)⟩) ?_
        simp only [Act.put, List.setIfInBounds_toArray, List.set_cons_zero, List.set_cons_succ]
        refine wpAny_take (i := 2) (oi := { dst := some 39, op := .nilCheck (.tmp 38), type := 0, pos := "sha.go:52", after := #[{ on := 1, ground := .data }], guard := none }) (v := .pointer (some ⟨g, 0, none⟩)) rfl (by kernel_rfl) (by kernel_rfl) (by kernel_rfl) (fun _ _ _ h => h) (Or.inl ⟨by rfl, fun w => by (go_simp; try with_reducible rfl)⟩) ?_
        simp only [Act.put, List.setIfInBounds_toArray, List.set_cons_zero, List.set_cons_succ]
        refine wpAny_take (i := 3) (oi := { dst := some 40, op := .fieldAddr 100 (.tmp 39) 0, type := 0, pos := "sha.go:52", after := #[{ on := 2, ground := .data }], guard := none }) (v := .pointer (some ⟨g, 0, none⟩)) rfl (by kernel_rfl) (by kernel_rfl) (by kernel_rfl) (fun _ _ _ h => h) (Or.inl ⟨by rfl, fun w => by (go_simp; try with_reducible rfl)⟩) ?_
        simp only [Act.put, List.setIfInBounds_toArray, List.set_cons_zero, List.set_cons_succ]
        refine wpAny_take (i := 5) (oi := { dst := some 42, op := .move (.tmp 0), type := 82, pos := "sha.go:52", after := #[], guard := none }) (v := .pointer (some ⟨g, 0, none⟩)) rfl (by kernel_rfl) (by kernel_rfl) (by kernel_rfl) (fun _ _ _ h => h) (Or.inl ⟨by rfl, fun w => by (go_simp; try with_reducible rfl)⟩) ?_
        simp only [Act.put, List.setIfInBounds_toArray, List.set_cons_zero, List.set_cons_succ]
        refine wpAny_take (i := 6) (oi := { dst := some 43, op := .nilCheck (.tmp 42), type := 0, pos := "sha.go:52", after := #[{ on := 5, ground := .data }], guard := none }) (v := .pointer (some ⟨g, 0, none⟩)) rfl (by kernel_rfl) (by kernel_rfl) (by kernel_rfl) (fun _ _ _ h => h) (Or.inl ⟨by rfl, fun w => by (go_simp; try with_reducible rfl)⟩) ?_
        simp only [Act.put, List.setIfInBounds_toArray, List.set_cons_zero, List.set_cons_succ]
        refine wpAny_take (i := 7) (oi := { dst := some 44, op := .fieldAddr 100 (.tmp 43) 1, type := 0, pos := "sha.go:52", after := #[{ on := 6, ground := .data }], guard := none }) (v := .pointer (some ⟨g, 8, none⟩)) rfl (by kernel_rfl) (by kernel_rfl) (by kernel_rfl) (fun _ _ _ h => h) (Or.inl ⟨by rfl, fun w => by (go_simp; try with_reducible rfl)⟩) ?_
        simp only [Act.put, List.setIfInBounds_toArray, List.set_cons_zero, List.set_cons_succ]
        refine wpAny_ready (rs := [4, 8]) (by kernel_rfl) (by simp) (ready_load { dst := some 41, op := .load 98 (.tmp 40), type := 98, pos := "sha.go:52", after := #[{ on := 3, ground := .data }], guard := none } rfl rfl 98 (.tmp 40) rfl g 0 rfl (u32s s'.S) _ HS3.out.1.drew.state Tryd.underlying98 rfl (by rw [u32s_length, hw.1]; exact Tryd.info_a8) ?_ (ready_load { dst := some 45, op := .load 80 (.tmp 44), type := 80, pos := "sha.go:52", after := #[{ on := 7, ground := .data }], guard := none } rfl rfl 80 (.tmp 44) rfl g 8 rfl (u8s (splice s'.R o part)) _ HS3.out.1.drew.rest Tryd.underlying80 rfl (by rw [u8s_length, hw.2.2.1]; exact Tryd.info_a64) ?_ AllReady.nil))
        · simp only [Act.put, List.setIfInBounds_toArray, List.set_cons_zero, List.set_cons_succ]
          refine wpAny_ready (rs := [8]) (by kernel_rfl) (by simp) (ready_load { dst := some 45, op := .load 80 (.tmp 44), type := 80, pos := "sha.go:52", after := #[{ on := 7, ground := .data }], guard := none } rfl rfl 80 (.tmp 44) rfl g 8 rfl (u8s (splice s'.R o part)) _ HS3.out.1.drew.rest Tryd.underlying80 rfl (by rw [u8s_length, hw.2.2.1]; exact Tryd.info_a64) ?_ AllReady.nil)
          simp only [Act.put, List.setIfInBounds_toArray, List.set_cons_zero, List.set_cons_succ]
          refine wpAny_ready (rs := [9]) (by kernel_rfl) (by simp) (AllReady.cons (o := { dst := some 46, op := .call { callee := .value (.func 54), args := #[.tmp 41, .tmp 45], argTypes := #[98, 80] }, type := 98, pos := "sha.go:52", after := #[{ on := 4, ground := .data }, { on := 8, ground := .data }], guard := none }) rfl (fun K hK => ?_) AllReady.nil)
          go_simp
          refine (mixed_of s'.S (splice s'.R o part) w3.drew hw.1 hw.2.1 hw.2.2.1 hw.2.2.2 (H.out.1.only (ho.trans HS3.out.2).drew hg)).mono ?_
          rintro e w4 ⟨rfl, bel4⟩
          have hs4 := HS3.out.1.drew.below bel4 HS3.out.1.1.lt
          have HO4 : Hid (Only g wr w4) := (HS3.out.2.drew).trans (Only.of_below bel4)
          clear bel4
          refine hK _ _ ?_
          clear hK K
          refine wpAny_take (i := 10) (oi := { dst := some 47, op := .nilCheck (.tmp 37), type := 0, pos := "sha.go:52", after := #[{ on := 0, ground := .data }, { on := 0, ground := .phase }, { on := 1, ground := .phase }, { on := 2, ground := .phase }, { on := 3, ground := .phase }, { on := 4, ground := .phase }, { on := 5, ground := .phase }, { on := 6, ground := .phase }, { on := 7, ground := .phase }, { on := 8, ground := .phase }, { on := 9, ground := .phase }], guard := none }) (v := .pointer (some ⟨g, 0, none⟩)) rfl (by kernel_rfl) (by kernel_rfl) (by kernel_rfl) (fun _ _ _ h => h) (Or.inl ⟨by rfl, fun w => by (go_simp; try with_reducible rfl)⟩) ?_
          simp only [Act.put, List.setIfInBounds_toArray, List.set_cons_zero, List.set_cons_succ]
          refine wpAny_take (i := 11) (oi := { dst := some 48, op := .fieldAddr 100 (.tmp 47) 0, type := 0, pos := "sha.go:52", after := #[{ on := 10, ground := .data }, { on := 0, ground := .phase }, { on := 1, ground := .phase }, { on := 2, ground := .phase }, { on := 3, ground := .phase }, { on := 4, ground := .phase }, { on := 5, ground := .phase }, { on := 6, ground := .phase }, { on := 7, ground := .phase }, { on := 8, ground := .phase }, { on := 9, ground := .phase }], guard := none }) (v := .pointer (some ⟨g, 0, none⟩)) rfl (by kernel_rfl) (by kernel_rfl) (by kernel_rfl) (fun _ _ _ h => h) (Or.inl ⟨by rfl, fun w => by (go_simp; try with_reducible rfl)⟩) ?_
          simp only [Act.put, List.setIfInBounds_toArray, List.set_cons_zero, List.set_cons_succ]
          refine wpAny_ready (rs := [12]) (by kernel_rfl) (by simp) (ready_store { dst := none, op := .store 98 (.tmp 48) (.tmp 46), type := 0, pos := "sha.go:52", after := #[{ on := 11, ground := .data }, { on := 9, ground := .data }, { on := 9, ground := .chain }, { on := 0, ground := .phase }, { on := 1, ground := .phase }, { on := 2, ground := .phase }, { on := 3, ground := .phase }, { on := 4, ground := .phase }, { on := 5, ground := .phase }, { on := 6, ground := .phase }, { on := 7, ground := .phase }, { on := 8, ground := .phase }, { on := 9, ground := .phase }], guard := none } rfl rfl 98 (.tmp 48) (.tmp 46) rfl g 0 (u32s (mixI s'.S (splice s'.R o part))).toArray rfl rfl (hs4.1.there 0 _ (by simp only [List.size_toArray, u32s_length, mixI_length _ hw.1, hash_len hw]; omega)) (by simp only [List.size_toArray, u32s_length, mixI_length _ hw.1]; exact Tryd.info_a8) (all_oneCell_toArray (u32s_one _)) ?_ AllReady.nil)
          refine wpAny_done (by kernel_rfl) ?_ _
          simp only [Act.put]
          go_wp2
          have hfn : HIn (w4.setCells g 0 (u32s (mixI s'.S (splice s'.R o part)))) g (takeI s' part) := by rw [HF.out, if_pos HE.out]; exact state_next hs4
          have hfo : Only g wr (w4.setCells g 0 (u32s (mixI s'.S (splice s'.R o part)))) := Only.setCells _ _ _ HO4.out
          go_roundw
          case rel =>
            refine write_close HN.out HR.out HM.out.2.1 (by have := HKC.out; omega) ?_ hfn (ho.trans hfo)
            first
              | exact rest_add hl HM.out.2.2.2.1 hbg HC.out hfo
              | exact rest_none hl (by have := HKC.out; omega)
          case measure => simp only [lenOf]; have := HM.out.2.2.2; omega
        · simp only [Act.put, List.setIfInBounds_toArray, List.set_cons_zero, List.set_cons_succ]
          refine wpAny_ready (rs := [4]) (by kernel_rfl) (by simp) (ready_load { dst := some 41, op := .load 98 (.tmp 40), type := 98, pos := "sha.go:52", after := #[{ on := 3, ground := .data }], guard := none } rfl rfl 98 (.tmp 40) rfl g 0 rfl (u32s s'.S) _ HS3.out.1.drew.state Tryd.underlying98 rfl (by rw [u32s_length, hw.1]; exact Tryd.info_a8) ?_ AllReady.nil)
          simp only [Act.put, List.setIfInBounds_toArray, List.set_cons_zero, List.set_cons_succ]
          refine wpAny_ready (rs := [9]) (by kernel_rfl) (by simp) (AllReady.cons (o := { dst := some 46, op := .call { callee := .value (.func 54), args := #[.tmp 41, .tmp 45], argTypes := #[98, 80] }, type := 98, pos := "sha.go:52", after := #[{ on := 4, ground := .data }, { on := 8, ground := .data }], guard := none }) rfl (fun K hK => ?_) AllReady.nil)
          go_simp
          refine (mixed_of s'.S (splice s'.R o part) w3.drew hw.1 hw.2.1 hw.2.2.1 hw.2.2.2 (H.out.1.only (ho.trans HS3.out.2).drew hg)).mono ?_
          rintro e w4 ⟨rfl, bel4⟩
          have hs4 := HS3.out.1.drew.below bel4 HS3.out.1.1.lt
          have HO4 : Hid (Only g wr w4) := (HS3.out.2.drew).trans (Only.of_below bel4)
          clear bel4
          refine hK _ _ ?_
          clear hK K
          refine wpAny_take (i := 10) (oi := { dst := some 47, op := .nilCheck (.tmp 37), type := 0, pos := "sha.go:52", after := #[{ on := 0, ground := .data }, { on := 0, ground := .phase }, { on := 1, ground := .phase }, { on := 2, ground := .phase }, { on := 3, ground := .phase }, { on := 4, ground := .phase }, { on := 5, ground := .phase }, { on := 6, ground := .phase }, { on := 7, ground := .phase }, { on := 8, ground := .phase }, { on := 9, ground := .phase }], guard := none }) (v := .pointer (some ⟨g, 0, none⟩)) rfl (by kernel_rfl) (by kernel_rfl) (by kernel_rfl) (fun _ _ _ h => h) (Or.inl ⟨by rfl, fun w => by (go_simp; try with_reducible rfl)⟩) ?_
          simp only [Act.put, List.setIfInBounds_toArray, List.set_cons_zero, List.set_cons_succ]
          refine wpAny_take (i := 11) (oi := { dst := some 48, op := .fieldAddr 100 (.tmp 47) 0, type := 0, pos := "sha.go:52", after := #[{ on := 10, ground := .data }, { on := 0, ground := .phase }, { on := 1, ground := .phase }, { on := 2, ground := .phase }, { on := 3, ground := .phase }, { on := 4, ground := .phase }, { on := 5, ground := .phase }, { on := 6, ground := .phase }, { on := 7, ground := .phase }, { on := 8, ground := .phase }, { on := 9, ground := .phase }], guard := none }) (v := .pointer (some ⟨g, 0, none⟩)) rfl (by kernel_rfl) (by kernel_rfl) (by kernel_rfl) (fun _ _ _ h => h) (Or.inl ⟨by rfl, fun w => by (go_simp; try with_reducible rfl)⟩) ?_
          simp only [Act.put, List.setIfInBounds_toArray, List.set_cons_zero, List.set_cons_succ]
          refine wpAny_ready (rs := [12]) (by kernel_rfl) (by simp) (ready_store { dst := none, op := .store 98 (.tmp 48) (.tmp 46), type := 0, pos := "sha.go:52", after := #[{ on := 11, ground := .data }, { on := 9, ground := .data }, { on := 9, ground := .chain }, { on := 0, ground := .phase }, { on := 1, ground := .phase }, { on := 2, ground := .phase }, { on := 3, ground := .phase }, { on := 4, ground := .phase }, { on := 5, ground := .phase }, { on := 6, ground := .phase }, { on := 7, ground := .phase }, { on := 8, ground := .phase }, { on := 9, ground := .phase }], guard := none } rfl rfl 98 (.tmp 48) (.tmp 46) rfl g 0 (u32s (mixI s'.S (splice s'.R o part))).toArray rfl rfl (hs4.1.there 0 _ (by simp only [List.size_toArray, u32s_length, mixI_length _ hw.1, hash_len hw]; omega)) (by simp only [List.size_toArray, u32s_length, mixI_length _ hw.1]; exact Tryd.info_a8) (all_oneCell_toArray (u32s_one _)) ?_ AllReady.nil)
          refine wpAny_done (by kernel_rfl) ?_ _
          simp only [Act.put]
          go_wp2
          have hfn : HIn (w4.setCells g 0 (u32s (mixI s'.S (splice s'.R o part)))) g (takeI s' part) := by rw [HF.out, if_pos HE.out]; exact state_next hs4
          have hfo : Only g wr (w4.setCells g 0 (u32s (mixI s'.S (splice s'.R o part)))) := Only.setCells _ _ _ HO4.out
          go_roundw
          case rel =>
            refine write_close HN.out HR.out HM.out.2.1 (by have := HKC.out; omega) ?_ hfn (ho.trans hfo)
            first
              | exact rest_add hl HM.out.2.2.2.1 hbg HC.out hfo
              | exact rest_none hl (by have := HKC.out; omega)
          case measure => simp only [lenOf]; have := HM.out.2.2.2; omega
end Go.Proofs.YtpliokkmiijieaaDoor
