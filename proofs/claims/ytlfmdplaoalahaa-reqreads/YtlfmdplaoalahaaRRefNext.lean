/- What one call of the document's own Next does. -/
import Derived.Test.YtlfmdplaoalahaaRSame
namespace Go.Proofs.Ytlfmdplaoalahaa
open Go.RowKit
set_option linter.unusedVariables false
set_option maxRecDepth 4000

theorem results_cell_three {P : Program} {fn : Func} {p u v : Tmp} {ty : TypeId} (h : fn.results = #[.cell p ty, .tmp u, .tmp v]) (tmps : Array Value) (w : World) (g : Nat) (L : List Value) (t : TypeId) (d : TypeDesc) (hp : tmps.getD p undef = .pointer (some ⟨g, 0, none⟩))
    (hb : Blk w g L t) (hu : P.underlying ty = some d) (hd : d.isRow = true) (hi : (P.info? ty).map (·.size) = some L.length) (x y : Value) (hx : tmps.getD u undef = x) (hy : tmps.getD v undef = y) : (results fn tmps).run P w = .ok (.tuple #[.agg L.toArray, x, y]) w := by
  subst hx
  subst hy
  have hl := run_loadVar_row (P := P) w g t ty L.toArray (0, 0) d hb hu (by cases d <;> first | rfl | cases hd) (by simpa using hi)
  have : (results fn tmps).run P w = ((asAddr (tmps.getD p undef)).run P w).andThen fun a w₁ => ((loadVar ty a).run P w₁).andThen fun z w₂ => .ok (.tuple #[z, tmps.getD u undef, tmps.getD v undef]) w₂ := by
    simp only [results, h]
    simp [Sem.run_bind, Result.andThen]
  rw [this, hp]
  simp [asAddr, hl, Result.andThen]
theorem six_blk {q : Nat} {Y : World} (h : Blk Y q (reqL rq0 none 0 0) 28) (r : Rq) (A2 : Option Addr) (Z C2 : Nat) : Blk ((((((Y.setCell ⟨q, 0, none⟩ (.int .u16 r.fl)).setCell ⟨q, 1, none⟩ (.int .u16 r.kd)).setCell ⟨q, 2, none⟩ (.int .u64 r.ck)).setCell ⟨q, 3, none⟩ (.int .u64 r.ofs)).setCell ⟨q, 4, none⟩ (.int .u32 r.ln)).setCell ⟨q, 5, none⟩ (.slice A2 Z C2)) q (reqL r A2 Z C2) 28 := h.setAll (vs := reqL r A2 Z C2) rfl
theorem six_below {q : Nat} {w Y : World} (h : Below q w Y) (r : Rq) (A2 : Option Addr) (Z C2 : Nat) : Below q w ((((((Y.setCell ⟨q, 0, none⟩ (.int .u16 r.fl)).setCell ⟨q, 1, none⟩ (.int .u16 r.kd)).setCell ⟨q, 2, none⟩ (.int .u64 r.ck)).setCell ⟨q, 3, none⟩ (.int .u64 r.ofs)).setCell ⟨q, 4, none⟩ (.int .u32 r.ln)).setCell ⟨q, 5, none⟩ (.slice A2 Z C2)) := below_setCells (Nat.le_refl _) (reqL r A2 Z C2) 0 _ h
/-- What the document's Next tells. -/
def DNextGot (q : Nat) (w : World) (R0 : Rq) (D0 : List Int) (C0 E0 : Int) (e : Ending) (w' : World) : Prop :=
  ∃ A k C, e = .returned (.tuple #[.agg (reqL R0 A k C).toArray, .int .i64 C0, .int .i64 E0]) ∧ BIn w' A k D0 ∧ (A = none → k = 0 ∧ C = 0) ∧ Below q w w'
theorem dnext_told {q : Nat} {w V : World} {r : Rq} {D : List Int} {x y : Int} {A : Option Addr} {k C : Nat} {a : Act} (hb : Blk V q (reqL r A k C) 28) (hbel : Below q w V) (hd : BIn V A k D) (hnil : A = none → k = 0 ∧ C = 0)
    (h2 : a.tmps.getD 2 undef = .pointer (some ⟨q, 0, none⟩)) (h3 : a.tmps.getD 3 undef = .int .i64 x) (h4 : a.tmps.getD 4 undef = .int .i64 y) (hde : a.defers = []) :
    bodyPost Try.prog Try.f11 (DNextGot q w r D x y) .ret a V :=
  bodyPost_ret (v := .tuple #[.agg (reqL r A k C).toArray, .int .i64 x, .int .i64 y]) (results_cell_three (p := 2) (u := 3) (v := 4) (ty := 28) rfl _ _ q _ _ _ h2 hb Try.underlying28 rfl Try.info_request _ _ h3 h4) hde ⟨A, k, C, rfl, hd, hnil, hbel⟩

set_option maxHeartbeats 600000 in
theorem dNext_of (a : Option Addr) (n c : Nat) (xs : List Int) (w : World) (hx : BIn w a n xs) (hnil : a = none → n = 0 ∧ c = 0) (hnc : n ≤ c) (hn : n ≤ 100000) :
    Calls Try.prog 11 #[.slice a n c] w (DNextGot w.heap.size w (nxR xs) (nxD xs) (nxC xs) (nxE xs)) := by
  obtain ⟨R0, hR⟩ : ∃ K, K = nxR xs := ⟨_, rfl⟩
  obtain ⟨D0, hD⟩ : ∃ D, D = nxD xs := ⟨_, rfl⟩
  obtain ⟨C0, hC⟩ : ∃ C, C = nxC xs := ⟨_, rfl⟩
  obtain ⟨E0, hE⟩ : ∃ E, E = nxE xs := ⟨_, rfl⟩
  obtain ⟨q, hq⟩ : ∃ q, q = w.heap.size := ⟨_, rfl⟩
  rw [← hR, ← hD, ← hC, ← hE, ← hq]
  have HF : Hid (R0 = nxR xs ∧ D0 = nxD xs ∧ C0 = nxC xs ∧ E0 = nxE xs) := ⟨hR, hD, hC, hE⟩
  have H : Hid (BIn w a n xs ∧ (a = none → n = 0 ∧ c = 0) ∧ n ≤ c ∧ q = w.heap.size) := ⟨hx, hnil, hnc, hq⟩
  clear hx hnil hnc hR hD hC hE
  go_enter Try.func11, Try.ntmps11
  go_wp2_with fail
  rw [← hq]
  clear hq
  refine (refTake_of a n c xs (some ⟨q + 1, 0, none⟩) 6 6 rqW _ ((H.out.1.alloc _).alloc _) H.out.2.1 H.out.2.2.1 (nin_rq (by rw [H.out.2.2.2]; simp)) hn (by omega)).mono ?_
  rw [off_rq, H.out.1.1]
  rintro e V ⟨A, k, D, R, r', F, rfl, ow, ow3, bl⟩
  have HB : Hid (Blk V q (reqL rq0 none 0 0) 28 ∧ Below q w V ∧ q < V.heap.size) := by
    have h1 : Blk V q (reqL rq0 none 0 0) 28 := (Blk.new' (L := reqL rq0 none 0 0) H.out.2.2.2.symm rfl).below (below_two H.out.2.2.2 bl).2 (by omega)
    exact ⟨h1, (below_two H.out.2.2.2 bl).1, h1.lt⟩
  clear bl
  by_cases h28 : n < 28
  · rw [decide_eq_false (by omega)]
    obtain ⟨r1, r2, r3, r4⟩ := nx_few (xs := xs) (by rw [H.out.1.1]; omega)
    have HR : Hid (R0 = rq0 ∧ D0 = [] ∧ C0 = 0 ∧ E0 = 80) := ⟨HF.out.1.trans r1, HF.out.2.1.trans r2, HF.out.2.2.1.trans r3, HF.out.2.2.2.trans r4⟩
    clear r1 r2 r3 r4 ow ow3 h28
    go_wp2_with (refine wpList_store_req rfl (.tmp 2) (.tmp 19) rfl q rq0 none 0 0 rfl rfl ?hT ?_; (case hT => exact HB.out.1.there 0 6 (by decide)); intro U hU; have S5 : Hid (Blk U q (reqL rq0 none 0 0) 28 ∧ Below q w U) := (by subst hU; exact ⟨HB.out.1.setAll rfl, below_setCells (Nat.le_refl _) _ _ _ HB.out.2.1⟩); clear hU)
    rw [HR.out.1, HR.out.2.1, HR.out.2.2.1, HR.out.2.2.2]
    exact dnext_told S5.out.1 S5.out.2 (bin_none _) (fun _ => ⟨rfl, rfl⟩) rfl rfl rfl rfl
  rw [decide_eq_true (by omega)]
  rw [take_rq xs (by rw [H.out.1.1]; omega)] at ow
  rw [rest_rq xs (by rw [H.out.1.1]; omega)] at ow3
  have hls : ¬ xs.length < 28 := by rw [H.out.1.1]; exact h28
  have f1 := nx_magic hls
  have f2 := nx_other hls
  have f3 := nx_long hls
  have f4 := nx_more hls
  have f5 := nx_good hls
  have hrf := hR_fits H.out.1.2.2.1
  rw [H.out.1.1] at f4 f5
  obtain ⟨r, er⟩ : ∃ r, r = hR xs := ⟨_, rfl⟩
  obtain ⟨M, eM⟩ : ∃ M, M = hM xs := ⟨_, rfl⟩
  rw [← er, ← eM] at ow
  rw [← er] at f2 f3 f4 f5 hrf
  rw [← eM] at f1 f2 f3 f4 f5
  obtain ⟨g, rfl, hk, hg, hkC, hc⟩ := own_at ow (by simp)
  have hk6 : k = 6 := by simpa using hk
  subst hk6
  have c0 : V.cell? ⟨g, 0, none⟩ = some (.int .u64 M) := hc 0 (by simp)
  have c1 : V.cell? ⟨g, 1, none⟩ = some (.int .u64 r.fl) := hc 1 (by simp)
  have c2 : V.cell? ⟨g, 2, none⟩ = some (.int .u64 r.kd) := hc 2 (by simp)
  have c3 : V.cell? ⟨g, 3, none⟩ = some (.int .u64 r.ck) := hc 3 (by simp)
  have c4 : V.cell? ⟨g, 4, none⟩ = some (.int .u64 r.ofs) := hc 4 (by simp)
  have c5 : V.cell? ⟨g, 5, none⟩ = some (.int .u64 r.ln) := hc 5 (by simp)
  have hr' : r' = n - 28 := by have := ow3.1; rw [u8s_length, List.length_drop, H.out.1.1] at this; omega
  have hbr : BIn V R r' (xs.drop 28) := own_bin ow3 (by unfold maxLen; omega) (fun z hz => H.out.1.2.2.1 z (List.mem_of_mem_drop hz))
  have HG : Hid ((M ≠ rqMagic → nxR xs = rq0 ∧ nxD xs = [] ∧ nxC xs = 0 ∧ nxE xs = 81) ∧ (M = rqMagic → r.kd ≠ 1 → nxR xs = r ∧ nxD xs = [] ∧ nxC xs = 28 ∧ nxE xs = 0) ∧
    (M = rqMagic → r.kd = 1 → 65536 < r.ln → nxR xs = rq0 ∧ nxD xs = [] ∧ nxC xs = 0 ∧ nxE xs = 82) ∧
    (M = rqMagic → r.kd = 1 → ¬ 65536 < r.ln → (n : Int) < 28 + r.ln → nxR xs = rq0 ∧ nxD xs = [] ∧ nxC xs = 0 ∧ nxE xs = 80) ∧
    (M = rqMagic → r.kd = 1 → ¬ 65536 < r.ln → ¬ (n : Int) < 28 + r.ln → nxR xs = r ∧ nxD xs = (xs.drop 28).take r.ln.toNat ∧ nxC xs = 28 + r.ln ∧ nxE xs = 0)) := ⟨f1, f2, f3, f4, f5⟩
  have HV : Hid (BIn V R r' (xs.drop 28) ∧ r' ≤ F ∧ (R = none → r' = 0 ∧ F = 0) ∧ r.Fits ∧ r' = n - 28 ∧ 28 ≤ n ∧ V.heap.size = V.heap.size) := ⟨hbr, own_capN ow3, own_nil ow3, hrf, hr', by omega, rfl⟩
  have hrb : r' ≤ 100000 := by omega
  have u1 : IntKind.u16.wrap r.fl = r.fl := by rw [IntKind.wrap_u16]; have := hrf.1; unfold Fits16 at this; omega
  have u2 : IntKind.u16.wrap r.kd = r.kd := by rw [IntKind.wrap_u16]; have := hrf.2.1; unfold Fits16 at this; omega
  have u5 : IntKind.u32.wrap r.ln = r.ln := by rw [IntKind.wrap_u32]; have := hrf.2.2.2.2; unfold Fits32 at this; omega
  clear ow ow3 hc hk hg hkC er eM hls f1 f2 f3 f4 f5 hrf hr' hbr h28
  by_cases hMm : M = rqMagic
  · have HM : Hid (M = rqMagic) := hMm
    have hM' : (M != 627086611) = false := by rw [hMm]; rfl
    clear hMm
    have v1 := World.new_ne V ⟨g, 1, none⟩ c1
    have v2 := World.new_ne V ⟨g, 2, none⟩ c2
    have v3 := World.new_ne V ⟨g, 3, none⟩ c3
    have v4 := World.new_ne V ⟨g, 4, none⟩ c4
    have v5 := World.new_ne V ⟨g, 5, none⟩ c5
    go_wp2
    go_region_held3 (fun w' => w'.cell? ⟨g, 1, none⟩ = some (.int .u64 r.fl) ∧ w'.cell? ⟨g, 2, none⟩ = some (.int .u64 r.kd) ∧ w'.cell? ⟨g, 3, none⟩ = some (.int .u64 r.ck) ∧ w'.cell? ⟨g, 4, none⟩ = some (.int .u64 r.ofs) ∧ w'.cell? ⟨g, 5, none⟩ = some (.int .u64 r.ln)) (go_keep) (fail)
    clear v1 v2 v3 v4 v5
    have b6 : Blk (V.alloc (.cells #[.int .u16 r.fl, .int .u16 r.kd, .int .u64 r.ck, .int .u64 r.ofs, .int .u32 r.ln, .slice none 0 0] 28)).drew V.heap.size (reqL r none 0 0) 28 := (Blk.new' (L := reqL r none 0 0) rfl rfl).drew
    have q6 : Blk (V.alloc (.cells #[.int .u16 r.fl, .int .u16 r.kd, .int .u64 r.ck, .int .u64 r.ofs, .int .u32 r.ln, .slice none 0 0] 28)).drew q (reqL rq0 none 0 0) 28 := (HB.out.1.alloc _).drew
    have w6 : Below q w (V.alloc (.cells #[.int .u16 r.fl, .int .u16 r.kd, .int .u64 r.ck, .int .u64 r.ofs, .int .u32 r.ln, .slice none 0 0] 28)).drew := (HB.out.2.1.alloc (by have := HB.out.2.2; omega) _).drew
    have r6 : BIn (V.alloc (.cells #[.int .u16 r.fl, .int .u16 r.kd, .int .u64 r.ck, .int .u64 r.ofs, .int .u32 r.ln, .slice none 0 0] 28)).drew R r' (xs.drop 28) := (HV.out.1.alloc _)
    have s6 : V.heap.size < (V.alloc (.cells #[.int .u16 r.fl, .int .u16 r.kd, .int .u64 r.ck, .int .u64 r.ofs, .int .u32 r.ln, .slice none 0 0] 28)).drew.heap.size := by simp
    obtain ⟨p, hp⟩ : ∃ p, p = V.heap.size := ⟨_, rfl⟩
    rw [← hp] at b6 s6 ⊢
    have hqp : q < p := by rw [hp]; exact HB.out.2.2
    generalize hX : World.drew (World.alloc V _) = X at b6 q6 w6 r6 s6 ⊢
    have H6 : Hid (Blk X p (reqL r none 0 0) 28 ∧ Blk X q (reqL rq0 none 0 0) 28 ∧ Below q w X ∧ BIn X R r' (xs.drop 28) ∧ q < p ∧ p < X.heap.size) := ⟨b6, q6, w6, r6, hqp, s6⟩
    clear b6 q6 w6 r6 s6 hX hp hqp c0 c1 c2 c3 c4 c5 u1 u2 u5 hn
    have k0 : X.cell? ⟨p, 0, none⟩ = some (.int .u16 r.fl) := H6.out.1.cell 0
    have k1 : X.cell? ⟨p, 1, none⟩ = some (.int .u16 r.kd) := H6.out.1.cell 1
    have k2 : X.cell? ⟨p, 2, none⟩ = some (.int .u64 r.ck) := H6.out.1.cell 2
    have k3 : X.cell? ⟨p, 3, none⟩ = some (.int .u64 r.ofs) := H6.out.1.cell 3
    have k5 : X.cell? ⟨p, 5, none⟩ = some (.slice none 0 0) := H6.out.1.cell 5
    by_cases hkd : r.kd = 1
    · have HK : Hid (r.kd = 1) := hkd
      rw [hkd] at k1
      clear hkd
      obtain ⟨Z, eZ⟩ : ∃ Z : Nat, (Z : Int) = r.ln := ⟨r.ln.toNat, by rw [Int.toNat_of_nonneg HV.out.2.2.2.1.2.2.2.2.1]⟩
      have k4 : X.cell? ⟨p, 4, none⟩ = some (.int .u32 (Z : Int)) := by rw [eZ]; exact H6.out.1.cell 4
      have HZ : Hid ((Z : Int) = r.ln) := eZ
      clear eZ
      by_cases hZ : 65536 < (Z : Int)
      · obtain ⟨r1, r2, r3, r4⟩ := HG.out.2.2.1 HM.out HK.out (by rw [← HZ.out]; exact hZ)
        have HR : Hid (R0 = rq0 ∧ D0 = [] ∧ C0 = 0 ∧ E0 = 82) := ⟨HF.out.1.trans r1, HF.out.2.1.trans r2, HF.out.2.2.1.trans r3, HF.out.2.2.2.trans r4⟩
        clear r1 r2 r3 r4
        go_wp2_with (refine wpList_store_req rfl (.tmp 2) (.tmp 51) rfl q rq0 none 0 0 rfl rfl ?hT ?_; (case hT => exact H6.out.2.1.there 0 6 (by decide)); intro U hU; have S5 : Hid (Blk U q (reqL rq0 none 0 0) 28 ∧ Below q w U) := (by subst hU; exact ⟨H6.out.2.1.setAll rfl, below_setCells (Nat.le_refl _) _ _ _ H6.out.2.2.1⟩); clear hU)
        rw [HR.out.1, HR.out.2.1, HR.out.2.2.1, HR.out.2.2.2]
        exact dnext_told S5.out.1 S5.out.2 (bin_none _) (fun _ => ⟨rfl, rfl⟩) rfl rfl rfl rfl
      · have hZ6 : (Z : Int) ≤ 65536 := by omega
        by_cases hZn : (r' : Int) < Z
        · obtain ⟨r1, r2, r3, r4⟩ := HG.out.2.2.2.1 HM.out HK.out (by rw [← HZ.out]; omega) (by rw [← HZ.out]; have := HV.out.2.2.2.2; omega)
          have HR : Hid (R0 = rq0 ∧ D0 = [] ∧ C0 = 0 ∧ E0 = 80) := ⟨HF.out.1.trans r1, HF.out.2.1.trans r2, HF.out.2.2.1.trans r3, HF.out.2.2.2.trans r4⟩
          clear r1 r2 r3 r4 hZ
          go_wp2_with (refine wpList_store_req rfl (.tmp 2) (.tmp 58) rfl q rq0 none 0 0 rfl rfl ?hT ?_; (case hT => exact H6.out.2.1.there 0 6 (by decide)); intro U hU; have S5 : Hid (Blk U q (reqL rq0 none 0 0) 28 ∧ Below q w U) := (by subst hU; exact ⟨H6.out.2.1.setAll rfl, below_setCells (Nat.le_refl _) _ _ _ H6.out.2.2.1⟩); clear hU)
          rw [HR.out.1, HR.out.2.1, HR.out.2.2.1, HR.out.2.2.2]
          exact dnext_told S5.out.1 S5.out.2 (bin_none _) (fun _ => ⟨rfl, rfl⟩) rfl rfl rfl rfl
        · obtain ⟨r1, r2, r3, r4⟩ := HG.out.2.2.2.2 HM.out HK.out (by rw [← HZ.out]; omega) (by rw [← HZ.out]; have := HV.out.2.2.2.2; omega)
          rw [← HZ.out] at r2 r3
          rw [Int.toNat_natCast] at r2
          have HR : Hid (R0 = r ∧ D0 = (xs.drop 28).take Z ∧ C0 = 28 + (Z : Int) ∧ E0 = 0) := ⟨HF.out.1.trans r1, HF.out.2.1.trans r2, HF.out.2.2.1.trans r3, HF.out.2.2.2.trans r4⟩
          have hZr : (Z : Int) ≤ r' := by omega
          have hsl := fun w => slice_front Try.underlying22 Try.one_bytes R r' F Z (by have := HV.out.2.1; omega) w
          have HY : Hid (BIn X R Z ((xs.drop 28).take Z) ∧ (R = none → Z = 0 ∧ F = 0)) := ⟨(H6.out.2.2.2.1.n.front Z (by omega)).b, fun e => by have := HV.out.2.2.1 e; omega⟩
          clear r1 r2 r3 r4 hZ hZn
          go_upto_region 15 with (at_builtin; refine wpList_append_bin rfl (.tmp 59) (.tmp 64) rfl X.heap.size none 0 0 [] rfl (World.ownsRow_nil _ _ _ _) R Z F ((xs.drop 28).take Z) rfl HY.out.1 HY.out.2 (by omega) (Nat.le_refl _) ?_; intro A2 C2 w2 ow2 bl2; simp only [Nat.zero_add, List.nil_append] at ow2 ⊢)
          have H7 : Hid (Blk w2 p (reqL r none 0 0) 28 ∧ Blk w2 q (reqL rq0 none 0 0) 28 ∧ Below q w w2 ∧ w2.ownsRow X.heap.size 5 1 (.slice A2 Z C2) Z (u8s ((xs.drop 28).take Z))) := ⟨H6.out.1.below bl2 H6.out.2.2.2.2.2, H6.out.2.1.below bl2 (by have := H6.out.2.2.2.2; omega), H6.out.2.2.1.trans (bl2.mono (by have := H6.out.2.2.2.2; omega)), ow2⟩
          have m5 : w2.cell? ⟨p, 5, none⟩ = some (.slice none 0 0) := H7.out.1.cell 5
          have n5 := H7.out.1.frozen 5
          clear ow2 bl2 k0 k1 k2 k3 k4 k5
          go_upto_region 16 with fail
          have s8 : Blk (w2.setCell ⟨p, 5, none⟩ (.slice A2 Z C2)) p (reqL r A2 Z C2) 28 := H7.out.1.set 5 _
          have q8 : Blk (w2.setCell ⟨p, 5, none⟩ (.slice A2 Z C2)) q (reqL rq0 none 0 0) 28 := H7.out.2.1.set_other (by have := H6.out.2.2.2.2; show q ≠ p; omega) _
          have w8 : Below q w (w2.setCell ⟨p, 5, none⟩ (.slice A2 Z C2)) := H7.out.2.2.1.setCell (by have := H6.out.2.2.2.2; show q ≤ p; omega) _
          have o8 := ownsRow_setCell_below H7.out.2.2.2 (a := ⟨p, 5, none⟩) (by have := H6.out.2.2.2.2; show p < X.heap.size; omega) (.slice A2 Z C2)
          generalize hY : World.setCell w2 _ _ = Y at s8 q8 w8 o8 ⊢
          have H8 : Hid (Blk Y p (reqL r A2 Z C2) 28 ∧ Blk Y q (reqL rq0 none 0 0) 28 ∧ Below q w Y ∧ Y.ownsRow X.heap.size 5 1 (.slice A2 Z C2) Z (u8s ((xs.drop 28).take Z)) ∧ q < p ∧ p < X.heap.size ∧ Z ≤ 65536) := ⟨s8, q8, w8, o8, H6.out.2.2.2.2.1, H6.out.2.2.2.2.2, by omega⟩
          have e0 : Y.cell? ⟨p, 0, none⟩ = some (.int .u16 r.fl) := s8.cell 0
          have e1 : Y.cell? ⟨p, 1, none⟩ = some (.int .u16 r.kd) := s8.cell 1
          have e2 : Y.cell? ⟨p, 2, none⟩ = some (.int .u64 r.ck) := s8.cell 2
          have e3 : Y.cell? ⟨p, 3, none⟩ = some (.int .u64 r.ofs) := s8.cell 3
          have e4 : Y.cell? ⟨p, 4, none⟩ = some (.int .u32 r.ln) := s8.cell 4
          have e5 : Y.cell? ⟨p, 5, none⟩ = some (.slice A2 Z C2) := s8.cell 5
          have x0 : Y.cell? ⟨q, 0, none⟩ = some (.int .u16 0) := q8.cell 0
          have x1 : Y.cell? ⟨q, 1, none⟩ = some (.int .u16 0) := q8.cell 1
          have x2 : Y.cell? ⟨q, 2, none⟩ = some (.int .u64 0) := q8.cell 2
          have x3 : Y.cell? ⟨q, 3, none⟩ = some (.int .u64 0) := q8.cell 3
          have x4 : Y.cell? ⟨q, 4, none⟩ = some (.int .u32 0) := q8.cell 4
          have x5 : Y.cell? ⟨q, 5, none⟩ = some (.slice none 0 0) := q8.cell 5
          have z0 := q8.frozen 0
          have z1 := q8.frozen 1
          have z2 := q8.frozen 2
          have z3 := q8.frozen 3
          have z4 := q8.frozen 4
          have z5 := q8.frozen 5
          have hpq : p ≠ q := by have := H6.out.2.2.2.2; omega
          have hqp : q ≠ p := by have := H6.out.2.2.2.2; omega
          have hwz : IntKind.i64.wrap r.ln = r.ln := by rw [← HZ.out, IntKind.wrap_i64]; omega
          have hwc : IntKind.i64.wrap (28 + r.ln) = C0 := by rw [HR.out.2.2.1, ← HZ.out, IntKind.wrap_i64]; omega
          clear s8 q8 w8 o8 hY m5 n5 hZ6 hZr hsl hrb
          go_region_held3 (fun w' => w'.cell? ⟨p, 0, none⟩ = some (.int .u16 r.fl) ∧ w'.cell? ⟨p, 1, none⟩ = some (.int .u16 r.kd) ∧ w'.cell? ⟨p, 2, none⟩ = some (.int .u64 r.ck) ∧ w'.cell? ⟨p, 3, none⟩ = some (.int .u64 r.ofs) ∧ w'.cell? ⟨p, 4, none⟩ = some (.int .u32 r.ln) ∧ w'.cell? ⟨p, 5, none⟩ = some (.slice A2 Z C2)) (go_keep) (fail)
          go_wp2
          have t1 := six_blk H8.out.2.1 r A2 Z C2
          have t2 := six_below H8.out.2.2.1 r A2 Z C2
          have o9 := own_six H8.out.2.2.2.1 (q := q) (by have := H8.out.2.2.2.2; omega) r A2 Z C2
          generalize hU : World.setCell (World.setCell (World.setCell (World.setCell (World.setCell (World.setCell Y _ _) _ _) _ _) _ _) _ _) _ _ = U at t1 t2 o9 ⊢
          rw [HR.out.1, HR.out.2.1, HR.out.2.2.2]
          exact dnext_told t1.drew t2.drew (own_bin o9.drew (by have := H8.out.2.2.2.2.2.2; unfold maxLen; omega) (fun z hz => H.out.1.2.2.1 z (List.mem_of_mem_drop (List.mem_of_mem_take hz)))) (own_nil o9) rfl rfl rfl rfl
    · have hk' : (r.kd != 1) = true := by simp [hkd]
      obtain ⟨r1, r2, r3, r4⟩ := HG.out.2.1 HM.out hkd
      have HR : Hid (R0 = r ∧ D0 = [] ∧ C0 = 28 ∧ E0 = 0) := ⟨HF.out.1.trans r1, HF.out.2.1.trans r2, HF.out.2.2.1.trans r3, HF.out.2.2.2.trans r4⟩
      have k4 : X.cell? ⟨p, 4, none⟩ = some (.int .u32 r.ln) := H6.out.1.cell 4
      clear r1 r2 r3 r4 hkd
      go_wp2_with (refine wpList_store_req rfl (.tmp 2) (.tmp 47) rfl q r none 0 0 rfl rfl ?hT ?_; (case hT => exact H6.out.2.1.there 0 6 (by decide)); intro U hU; have S5 : Hid (Blk U q (reqL r none 0 0) 28 ∧ Below q w U) := (by subst hU; exact ⟨H6.out.2.1.setAll rfl, below_setCells (Nat.le_refl _) _ _ _ H6.out.2.2.1⟩); clear hU)
      rw [HR.out.1, HR.out.2.1, HR.out.2.2.1, HR.out.2.2.2]
      exact dnext_told S5.out.1 S5.out.2 (bin_none _) (fun _ => ⟨rfl, rfl⟩) rfl rfl rfl rfl
  · obtain ⟨r1, r2, r3, r4⟩ := HG.out.1 hMm
    have HR : Hid (R0 = rq0 ∧ D0 = [] ∧ C0 = 0 ∧ E0 = 81) := ⟨HF.out.1.trans r1, HF.out.2.1.trans r2, HF.out.2.2.1.trans r3, HF.out.2.2.2.trans r4⟩
    clear r1 r2 r3 r4
    have hM' : (M != 627086611) = true := by unfold rqMagic at hMm; simp [hMm]
    clear hMm
    go_wp2_with (refine wpList_store_req rfl (.tmp 2) (.tmp 24) rfl q rq0 none 0 0 rfl rfl ?hT ?_; (case hT => exact HB.out.1.there 0 6 (by decide)); intro U hU; have S5 : Hid (Blk U q (reqL rq0 none 0 0) 28 ∧ Below q w U) := (by subst hU; exact ⟨HB.out.1.setAll rfl, below_setCells (Nat.le_refl _) _ _ _ HB.out.2.1⟩); clear hU)
    rw [HR.out.1, HR.out.2.1, HR.out.2.2.1, HR.out.2.2.2]
    exact dnext_told S5.out.1 S5.out.2 (bin_none _) (fun _ => ⟨rfl, rfl⟩) rfl rfl rfl rfl
end Go.Proofs.Ytlfmdplaoalahaa
