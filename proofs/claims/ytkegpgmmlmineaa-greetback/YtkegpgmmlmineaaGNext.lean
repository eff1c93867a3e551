/- What one call of greet's Next does, and of the document's. -/
import Derived.Test.YtkegpgmmlmineaaGFront
import Derived.Laws.ResultCell
namespace Go.Proofs.Ytkegpgmmlmineaa
open Go.RowKit
set_option linter.unusedVariables false
set_option maxRecDepth 4000

theorem results_cell_three {P : Program} {fn : Func} {p u v : Tmp} {ty : TypeId} (h : fn.results = #[.cell p ty, .tmp u, .tmp v]) (tmps : Array Value) (w : World) (g : Nat) (L : List Value) (t : TypeId) (d : TypeDesc) (hp : tmps.getD p undef = .pointer (some ⟨g, 0, none⟩))
    (hb : Blk w g L t) (hu : P.underlying ty = some d) (hd : d.isRow = true) (hi : (P.info? ty).map (·.size) = some L.length) (x y : Value) (hx : tmps.getD u undef = x) (hy : tmps.getD v undef = y) : (results fn tmps).run P w = .ok (.tuple #[.agg L.toArray, x, y]) w := by
  subst hx
  subst hy
  have hl := run_loadVar_row (P := P) w g t ty L.toArray (0, 0) d hb hu (by cases d <;> first | rfl | cases hd) (by simpa using hi)
  have : (results fn tmps).run P w = ((asAddr (tmps.getD p undef)).run P w).andThen fun a w₁ => ((loadVar ty a).run P w₁).andThen fun z w₂ => .ok (.tuple #[z, tmps.getD u undef, tmps.getD v undef]) w₂ := by
    simp only [results, h]
    simp [Sem.run_bind, Result.andThen]
  rw [this, hp]
  simp [asAddr, hl, Result.andThen]
/-- A part of a slice, as slicing leaves it, in whatever world. -/
theorem slice_part {t : TypeId} (ht : Try.prog.underlying t = some (.slice (Try.prog.elem t))) (hz : ∀ w : World, (sizeOf (Try.prog.elem t)).run Try.prog w = .ok 1 w) (a : Option Addr) (n c l h : Nat) (hl : l ≤ h) (hh : h ≤ c) (w : World) :
    (Instr.slice t (.slice a n c) (some (.int .i64 (l : Int))) (some (.int .i64 (h : Int))) none).run Try.prog w = .ok (.slice (if c = l then a else a.map (·.add l)) (h - l) (c - l)) w := by
  rw [run_slice_lh (P := Try.prog) w t a n c ht .i64 .i64 l h (by omega) (by omega) (by omega), hz w]
  simp only [Result.andThen, Int.toNat_natCast]
  unfold sliced
  rw [Nat.mul_one]
def optL (K : Int) (A : Option Addr) (k C : Nat) : List Value := [.int .u32 K, .slice A k C]
theorem Try.info_option : (Try.prog.info? 32).map (·.size) = some 2 := by kernel_rfl
theorem opt_size (K : Int) (A : Option Addr) (k C : Nat) : (Try.prog.info? 32).map (·.size) = some (optL K A k C).toArray.size := Try.info_option
theorem opt_all (K : Int) (A : Option Addr) (k C : Nat) : (optL K A k C).toArray.all (·.oneCell') = true := all_oneCell_toArray (by intro v hv; simp only [optL, List.mem_cons, List.not_mem_nil, or_false] at hv; rcases hv with rfl | rfl <;> rfl)
theorem below_two {w w1 : World} {q : Nat} {o p : Obj} (hq : q = w.heap.size) (h : Below ((w.alloc o).alloc p).heap.size ((w.alloc o).alloc p) w1) : Below q w w1 ∧ Below (q + 1) (w.alloc o) w1 := by
  subst hq
  refine ⟨(((Below.refl _ _).alloc (Nat.le_refl _) o).alloc (by simp) p).trans (h.mono (by simp; omega)), ((Below.refl _ _).alloc (by simp) p).trans (h.mono (by simp))⟩
theorem own_setCells {t : TypeId} {base g : Nat} {v : Value} {n : Nat} {zs : List Value} (hg : g < base) : ∀ (vs : List Value) (o : Nat) (w : World), w.ownsRow base t 1 v n zs → (w.setCells g o vs).ownsRow base t 1 v n zs
  | [], _, _, h => h
  | x :: vs, o, w, h => own_setCells hg vs (o + 1) _ (ownsRow_setCell_below h (by show g < base; exact hg) x)
theorem next_few {xs : List Int} (h : xs.length < 16) : nextK xs = 0 ∧ nextD xs = [] ∧ nextC xs = 0 ∧ nextE xs = 70 := by
  have hE : nextE xs = 70 := by unfold nextE; rw [if_pos h]
  unfold nextK nextD nextC
  rw [hE]
  exact ⟨rfl, rfl, rfl, rfl⟩
theorem next_magic {xs : List Int} (h : ¬ xs.length < 16) (h1 : nM xs ≠ have8) : nextK xs = 0 ∧ nextD xs = [] ∧ nextC xs = 0 ∧ nextE xs = 71 := by
  have hE : nextE xs = 71 := by unfold nextE; rw [if_neg h, if_pos h1]
  unfold nextK nextD nextC
  rw [hE]
  exact ⟨rfl, rfl, rfl, rfl⟩
theorem next_long {xs : List Int} (h : ¬ xs.length < 16) (h1 : nM xs = have8) (h2 : 1024 < nL xs) : nextK xs = 0 ∧ nextD xs = [] ∧ nextC xs = 0 ∧ nextE xs = 73 := by
  have hE : nextE xs = 73 := by unfold nextE; rw [if_neg h, if_neg (fun k => k h1), if_pos h2]
  unfold nextK nextD nextC
  rw [hE]
  exact ⟨rfl, rfl, rfl, rfl⟩
theorem next_more {xs : List Int} (h : ¬ xs.length < 16) (h1 : nM xs = have8) (h2 : ¬ 1024 < nL xs) (h3 : (xs.length : Int) < 16 + nL xs) : nextK xs = 0 ∧ nextD xs = [] ∧ nextC xs = 0 ∧ nextE xs = 70 := by
  have hE : nextE xs = 70 := by unfold nextE; rw [if_neg h, if_neg (fun k => k h1), if_neg h2, if_pos h3]
  unfold nextK nextD nextC
  rw [hE]
  exact ⟨rfl, rfl, rfl, rfl⟩
theorem next_good {xs : List Int} (h : ¬ xs.length < 16) (h1 : nM xs = have8) (h2 : ¬ 1024 < nL xs) (h3 : ¬ (xs.length : Int) < 16 + nL xs) : nextK xs = nK xs ∧ nextD xs = (xs.drop 16).take (nL xs).toNat ∧ nextC xs = 16 + nL xs ∧ nextE xs = 0 := by
  have hE : nextE xs = 0 := by unfold nextE; rw [if_neg h, if_neg (fun k => k h1), if_neg h2, if_neg h3]
  unfold nextK nextD nextC
  rw [hE]
  exact ⟨rfl, rfl, rfl, rfl⟩
theorem nK_fits {xs : List Int} (h : ∀ z ∈ xs, Fits8 z) : 0 ≤ nK xs ∧ nK xs < 4294967296 := numI_take h 8 4
theorem nL_fits {xs : List Int} (h : ∀ z ∈ xs, Fits8 z) : 0 ≤ nL xs ∧ nL xs < 4294967296 := numI_take h 12 4
theorem nM_fits {xs : List Int} (h : ∀ z ∈ xs, Fits8 z) : 0 ≤ nM xs ∧ nM xs < 18446744073709551616 := by have := numI_take h 0 8; rwa [List.drop_zero] at this

set_option maxHeartbeats 2000000 in
theorem next_of (a : Option Addr) (n c : Nat) (xs : List Int) (w : World) (hx : BIn w a n xs) (hnil : a = none → n = 0 ∧ c = 0) (hnc : n ≤ c) (hn : n ≤ 100000) :
    Calls Try.prog 12 #[.slice a n c] w fun e w' => ∃ A k C, e = .returned (.tuple #[.agg (optL (nextK xs) A k C).toArray, .int .i64 (nextC xs), .int .u16 (nextE xs)]) ∧ BIn w' A k (nextD xs) ∧ (A = none → k = 0 ∧ C = 0) ∧ Below w.heap.size w w' := by
  obtain ⟨K0, hK⟩ : ∃ K, K = nextK xs := ⟨_, rfl⟩
  obtain ⟨D0, hD⟩ : ∃ D, D = nextD xs := ⟨_, rfl⟩
  obtain ⟨C0, hC⟩ : ∃ C, C = nextC xs := ⟨_, rfl⟩
  obtain ⟨E0, hE⟩ : ∃ E, E = nextE xs := ⟨_, rfl⟩
  obtain ⟨q, hq⟩ : ∃ q, q = w.heap.size := ⟨_, rfl⟩
  rw [← hK, ← hD, ← hC, ← hE, ← hq]
  have HF : Hid (K0 = nextK xs ∧ D0 = nextD xs ∧ C0 = nextC xs ∧ E0 = nextE xs) := ⟨hK, hD, hC, hE⟩
  have H : Hid (BIn w a n xs ∧ (a = none → n = 0 ∧ c = 0) ∧ n ≤ c ∧ q = w.heap.size) := ⟨hx, hnil, hnc, hq⟩
  clear hx hnil hnc hK hD hC hE
  go_enter Try.func12, Try.ntmps12
  go_wp2_with fail
  rw [← hq]
  clear hq
  refine (front_of a n c xs (some ⟨q + 1, 0, none⟩) 3 3 [8, 4, 4] _ ((H.out.1.alloc _).alloc _) H.out.2.1 H.out.2.2.1 (nin_lit 3 (by rw [H.out.2.2.2]; simp) rfl rfl rfl (by omega)) sane844 hn (by omega)).mono ?_
  rw [off844, H.out.1.1]
  rintro e w1 ⟨A, k, D, rfl, ow, bl⟩
  have HB : Hid (Blk w1 q (optL 0 none 0 0) 32 ∧ Below q w w1) :=
    ⟨(Blk.new' (L := optL 0 none 0 0) H.out.2.2.2.symm rfl).below (below_two H.out.2.2.2 bl).2 (by omega), (below_two H.out.2.2.2 bl).1⟩
  clear bl
  by_cases h16 : 16 ≤ n
  · rw [decide_eq_true h16]
    rw [take844 xs (by rw [H.out.1.1]; exact h16)] at ow
    obtain ⟨g, rfl, hk, hc⟩ := own_at ow (by simp)
    have c0 : w1.cell? ⟨g, 0, none⟩ = some (.int .u64 (nM xs)) := hc 0 (by simp)
    have c1 : w1.cell? ⟨g, 1, none⟩ = some (.int .u64 (nK xs)) := hc 1 (by simp)
    have c2 : w1.cell? ⟨g, 2, none⟩ = some (.int .u64 (nL xs)) := hc 2 (by simp)
    have hk1 : k = 3 := by simpa using hk
    subst hk1
    have hl : ¬ xs.length < 16 := by rw [H.out.1.1]; omega
    have f1 := next_magic hl
    have f2 := next_long hl
    have f3 := next_more hl
    have f4 := next_good hl
    obtain ⟨K, eK⟩ : ∃ K, K = nK xs := ⟨_, rfl⟩
    obtain ⟨M, eM⟩ : ∃ M, M = nM xs := ⟨_, rfl⟩
    obtain ⟨Z, eZ⟩ : ∃ Z : Nat, (Z : Int) = nL xs := ⟨(nL xs).toNat, by rw [Int.toNat_of_nonneg (nL_fits H.out.1.2.2.1).1]⟩
    have hKf := nK_fits H.out.1.2.2.1
    have hZf := nL_fits H.out.1.2.2.1
    rw [← eK] at c1 hKf f4
    rw [← eM] at c0 f1 f2 f3 f4
    rw [← eZ] at c2 hZf f2 f3 f4
    rw [H.out.1.1] at f3 f4
    have HG : Hid ((M ≠ have8 → nextK xs = 0 ∧ nextD xs = [] ∧ nextC xs = 0 ∧ nextE xs = 71) ∧ (M = have8 → 1024 < (Z : Int) → nextK xs = 0 ∧ nextD xs = [] ∧ nextC xs = 0 ∧ nextE xs = 73) ∧
      (M = have8 → ¬ 1024 < (Z : Int) → (n : Int) < 16 + Z → nextK xs = 0 ∧ nextD xs = [] ∧ nextC xs = 0 ∧ nextE xs = 70) ∧
      (M = have8 → ¬ 1024 < (Z : Int) → ¬ (n : Int) < 16 + Z → nextK xs = K ∧ nextD xs = (xs.drop 16).take (Z : Int).toNat ∧ nextC xs = 16 + Z ∧ nextE xs = 0)) := ⟨f1, f2, f3, f4⟩
    clear ow hc hk eK eM eZ hl f1 f2 f3 f4
    obtain ⟨k0, k1⟩ := hKf
    obtain ⟨z0, z1⟩ := hZf
    go_wp2
    go_quiet (fail)
    have HV : Hid (Blk (w1.drewN nq) q (optL 0 none 0 0) 32 ∧ Below q w (w1.drewN nq) ∧ BIn (w1.drewN nq) a n xs) :=
      ⟨HB.out.1.drewN nq, below_drewN HB.out.2 nq, H.out.1.below (by rw [← H.out.2.2.2]; exact below_drewN HB.out.2 nq)⟩
    clear c0 c1 c2
    generalize hW : w1.drewN nq = V at HV ⊢
    clear hW HB
    by_cases hM : M = have8
    · unfold have8 at hM
      have hM' : (M != 5280542401877725268) = false := by simp [hM]
      by_cases hZ : 1024 < (Z : Int)
      · obtain ⟨r1, r2, r3, r4⟩ := HG.out.2.1 hM (by omega)
        have HR : Hid (K0 = 0 ∧ D0 = [] ∧ C0 = 0 ∧ E0 = 73) := ⟨HF.out.1.trans r1, HF.out.2.1.trans r2, HF.out.2.2.1.trans r3, HF.out.2.2.2.trans r4⟩
        clear r1 r2 r3 r4
        go_wp2_with (refine wpList_store_mid rfl 32 (.tmp 2) (.tmp 35) rfl q 0 (optL 0 none 0 0).toArray rfl rfl ?hT (opt_size _ _ _ _) (opt_all _ _ _ _) ?_; (case hT => exact HV.out.1.there 0 2 (by decide)))
        have b3 := HV.out.1.setAll (vs := optL 0 none 0 0) (by rfl)
        refine bodyPost_ret (v := .tuple #[.agg (optL 0 none 0 0).toArray, .int .i64 0, .int .u16 73]) (results_cell_three (p := 2) (u := 3) (v := 4) (ty := 32) rfl _ _ q _ _ _ rfl b3 Try.underlying32 rfl Try.info_option _ _ rfl rfl) rfl ⟨none, 0, 0, ?_, ?_, fun _ => ⟨rfl, rfl⟩, below_setCells (Nat.le_refl _) _ _ _ HV.out.2.1⟩
        · rw [HR.out.1, HR.out.2.2.1, HR.out.2.2.2]
        · rw [HR.out.2.1]; exact bin_none _
      · by_cases hZn : (n : Int) < 16 + Z
        · obtain ⟨r1, r2, r3, r4⟩ := HG.out.2.2.1 hM (by omega) (by omega)
          have HR : Hid (K0 = 0 ∧ D0 = [] ∧ C0 = 0 ∧ E0 = 70) := ⟨HF.out.1.trans r1, HF.out.2.1.trans r2, HF.out.2.2.1.trans r3, HF.out.2.2.2.trans r4⟩
          clear r1 r2 r3 r4
          go_wp2_with (refine wpList_store_mid rfl 32 (.tmp 2) (.tmp 43) rfl q 0 (optL 0 none 0 0).toArray rfl rfl ?hT (opt_size _ _ _ _) (opt_all _ _ _ _) ?_; (case hT => exact HV.out.1.there 0 2 (by decide)))
          have b3 := HV.out.1.setAll (vs := optL 0 none 0 0) (by rfl)
          refine bodyPost_ret (v := .tuple #[.agg (optL 0 none 0 0).toArray, .int .i64 0, .int .u16 70]) (results_cell_three (p := 2) (u := 3) (v := 4) (ty := 32) rfl _ _ q _ _ _ rfl b3 Try.underlying32 rfl Try.info_option _ _ rfl rfl) rfl ⟨none, 0, 0, ?_, ?_, fun _ => ⟨rfl, rfl⟩, below_setCells (Nat.le_refl _) _ _ _ HV.out.2.1⟩
          · rw [HR.out.1, HR.out.2.2.1, HR.out.2.2.2]
          · rw [HR.out.2.1]; exact bin_none _
        · obtain ⟨r1, r2, r3, r4⟩ := HG.out.2.2.2 hM (by omega) (by omega)
          have hcc := H.out.2.2.1
          have hPn : 16 + (Z : Int) ≤ n := by omega
          have hPc : 16 + (Z : Int) ≤ c := by omega
          obtain ⟨A6, eA⟩ : ∃ A6, A6 = (if c = 16 then a else a.map (·.add 16)) := ⟨_, rfl⟩
          have hsl : ∀ w, (Instr.slice 22 (.slice a n c) (some (.int .i64 16)) (some (.int .i64 (16 + (Z : Int)))) none).run Try.prog w = .ok (.slice A6 Z (c - 16)) w := fun w => by
            have := slice_part Try.underlying22 Try.one_bytes a n c 16 (16 + Z) (by omega) (by omega) w
            rw [show 16 + Z - 16 = Z by omega, ← eA] at this
            exact this
          have hY : BIn V A6 Z ((xs.drop 16).take Z) := by
            have := ((HV.out.2.2.n.front (16 + Z) (by omega)).back (c := c) 16 (by omega) (by omega)).b
            rw [← eA, List.drop_take, show 16 + Z - 16 = Z by omega] at this
            exact this
          have hnil6 : A6 = none → Z = 0 ∧ c - 16 = 0 := by
            intro e
            obtain ⟨b, off, rfl, _⟩ := H.out.1.2.2.2.resolve_left (by omega)
            rw [eA] at e
            split at e <;> simp at e
          have HR : Hid (K0 = K ∧ D0 = (xs.drop 16).take Z ∧ C0 = 16 + (Z : Int) ∧ E0 = 0 ∧ BIn V A6 Z ((xs.drop 16).take Z) ∧ (A6 = none → Z = 0 ∧ c - 16 = 0) ∧ q < V.heap.size) := ⟨HF.out.1.trans r1, HF.out.2.1.trans r2, HF.out.2.2.1.trans r3, HF.out.2.2.2.trans r4, hY, hnil6, HV.out.1.lt⟩
          clear r1 r2 r3 r4 hY hnil6 eA hcc
          clear k0 k1 z0 z1
          go_wp2_with (first
            | (at_builtin; refine wpList_append_bin rfl (.const (.slice none 0 0)) (.tmp 47) rfl V.heap.size none 0 0 [] rfl (World.ownsRow_nil _ _ _ _) A6 Z (c - 16) ((xs.drop 16).take Z) rfl HR.out.2.2.2.2.1 HR.out.2.2.2.2.2.1 (by omega) (Nat.le_refl _) ?_; intro A2 C2 w2 ow2 bl2; simp only [Nat.zero_add, List.nil_append] at ow2 ⊢; have u0 := HV.out.1.below bl2 HV.out.1.lt)
            | (refine wpList_store_mid rfl 32 (.tmp 2) (.tmp 49) rfl q 0 (optL K A2 Z C2).toArray rfl rfl ?hT (opt_size _ _ _ _) (opt_all _ _ _ _) ?_; (case hT => exact u0.there 0 2 (by decide))))
          have b3 := u0.setAll (vs := optL K A2 Z C2) (by rfl)
          refine bodyPost_ret (v := .tuple #[.agg (optL K A2 Z C2).toArray, .int .i64 (16 + (Z : Int)), .int .u16 0]) (results_cell_three (p := 2) (u := 3) (v := 4) (ty := 32) rfl _ _ q _ _ _ rfl b3 Try.underlying32 rfl Try.info_option _ _ rfl rfl) rfl ⟨A2, Z, C2, ?_, ?_, own_nil ow2, below_setCells (Nat.le_refl _) _ _ _ (HV.out.2.1.trans (bl2.mono (by have := HR.out.2.2.2.2.2.2; omega)))⟩
          · rw [HR.out.1, HR.out.2.2.1, HR.out.2.2.2.1]
          · rw [HR.out.2.1]
            exact own_bin (own_setCells HR.out.2.2.2.2.2.2 _ _ _ ow2) (by unfold maxLen; omega) HR.out.2.2.2.2.1.2.2.1
    · obtain ⟨r1, r2, r3, r4⟩ := HG.out.1 hM
      have HR : Hid (K0 = 0 ∧ D0 = [] ∧ C0 = 0 ∧ E0 = 71) := ⟨HF.out.1.trans r1, HF.out.2.1.trans r2, HF.out.2.2.1.trans r3, HF.out.2.2.2.trans r4⟩
      clear r1 r2 r3 r4
      unfold have8 at hM
      have hM' : (M != 5280542401877725268) = true := by simp [hM]
      go_wp2_with (refine wpList_store_mid rfl 32 (.tmp 2) (.tmp 32) rfl q 0 (optL 0 none 0 0).toArray rfl rfl ?hT (opt_size _ _ _ _) (opt_all _ _ _ _) ?_; (case hT => exact HV.out.1.there 0 2 (by decide)))
      have b3 := HV.out.1.setAll (vs := optL 0 none 0 0) (by rfl)
      refine bodyPost_ret (v := .tuple #[.agg (optL 0 none 0 0).toArray, .int .i64 0, .int .u16 71]) (results_cell_three (p := 2) (u := 3) (v := 4) (ty := 32) rfl _ _ q _ _ _ rfl b3 Try.underlying32 rfl Try.info_option _ _ rfl rfl) rfl ⟨none, 0, 0, ?_, ?_, fun _ => ⟨rfl, rfl⟩, below_setCells (Nat.le_refl _) _ _ _ HV.out.2.1⟩
      · rw [HR.out.1, HR.out.2.2.1, HR.out.2.2.2]
      · rw [HR.out.2.1]; exact bin_none _
  · rw [decide_eq_false h16]
    obtain ⟨r1, r2, r3, r4⟩ := next_few (xs := xs) (by rw [H.out.1.1]; omega)
    have HR : Hid (K0 = 0 ∧ D0 = [] ∧ C0 = 0 ∧ E0 = 70) := ⟨HF.out.1.trans r1, HF.out.2.1.trans r2, HF.out.2.2.1.trans r3, HF.out.2.2.2.trans r4⟩
    clear r1 r2 r3 r4
    clear ow h16
    go_wp2_with (refine wpList_store_mid rfl 32 (.tmp 2) (.tmp 19) rfl q 0 (optL 0 none 0 0).toArray rfl rfl ?hT (opt_size _ _ _ _) (opt_all _ _ _ _) ?_; (case hT => exact HB.out.1.there 0 2 (by decide)))
    have b3 := HB.out.1.setAll (vs := optL 0 none 0 0) (by rfl)
    refine bodyPost_ret (v := .tuple #[.agg (optL 0 none 0 0).toArray, .int .i64 0, .int .u16 70]) (results_cell_three (p := 2) (u := 3) (v := 4) (ty := 32) rfl _ _ q _ _ _ rfl b3 Try.underlying32 rfl Try.info_option _ _ rfl rfl) rfl ⟨none, 0, 0, ?_, ?_, fun _ => ⟨rfl, rfl⟩, below_setCells (Nat.le_refl _) _ _ _ HB.out.2⟩
    · rw [HR.out.1, HR.out.2.2.1, HR.out.2.2.2]
    · rw [HR.out.2.1]; exact bin_none _
end Go.Proofs.Ytkegpgmmlmineaa
