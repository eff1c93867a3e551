/- For every shape, every list of tenants and every number the statement LedgerRoom holds: what fits, fits with fewer tenants, smaller quotas, and in any order; what is above the device does not. -/
import Derived.Test.YtkhldjpghjmgfaaRows
import Derived.Test.YtkhldjpghjmgfaaLgRm
import Derived.Test.YtkhldjpghjmgfaaLgOpen
import Derived.Lib.QuietBelow
import Derived.BigQuiet
import Derived.WalkKit
import Derived.ProofKit
import Derived.OpenShut
import Derived.ShutString
import Derived.ChangeOld
import Derived.Below
namespace Go.Proofs.Ytkhldjpghjmgfaa.ledgerRoom
open Go.ChangeShapes Go.WideShapes Go.ChangeAt Go.RowKit
open Go.ChangeMaps (open_string shut_string)
set_option linter.unusedVariables false

theorem own : ownKnob Try.prog.godebug = none := by kernel_rfl
theorem laidOut : laidOutB Try.prog = true := by kernel_rfl

set_option maxRecDepth 100000 in
set_option maxHeartbeats 4000000 in
theorem walk (s0 : Sh) (a1 : Option Addr) (n1 c1 : Nat) (x1 : List Tn) (a2 : Int) (w : World) (w0 : ShF s0) (w1 : TsL w a1 n1 x1 ∧ n1 ≤ c1 ∧ (a1 = none → n1 = 0 ∧ c1 = 0)) (w2 : (Lit.int .i64 a2).wf = true) :
    Calls Try.prog 7 #[.agg (shL s0).toArray, .slice a1 n1 c1, .int .i64 a2] w fun e w' => e = .returned (.bool true) ∧ Below w.heap.size w w' := by
  have k1 := lknown_any
  obtain ⟨hT, hcap, hnil⟩ := w1
  have hz : -9223372036854775808 ≤ s0.z := w0.1.1
  have ha2 := bounds_i64 w2
  show Calls Try.prog 7 #[.agg #[.int .i64 s0.z, .int .i64 s0.zb, .int .i64 s0.b, .int .i64 s0.r], .slice a1 n1 c1, .int .i64 a2] w _
  by_cases hl : (100 : Int) < n1
  · clear hT
    go_enter Try.func7, Try.ntmps7
    go_wp2_with (go_at_call 9; refine (k1 _).mono ?_; rintro e v1 ⟨rfl, B1⟩)
    go_ret
    exact ⟨rfl, ((Below.refl _ w).alloc (Nat.le_refl _) _).trans (B1.mono (by simp))⟩
  · have hn : n1 ≤ 100 := by omega
    obtain ⟨N, hN⟩ : ∃ N : Nat, (N : Int) = (if a2 < 0 then 0 else a2) % (n1 + 1) := ⟨((if a2 < 0 then 0 else a2) % (n1 + 1)).toNat, by have := Int.emod_nonneg (if a2 < 0 then 0 else a2) (show (n1 + 1 : Int) ≠ 0 by omega); omega⟩
    have hNn : N ≤ n1 := by have := Int.emod_lt_of_pos (if a2 < 0 then 0 else a2) (show (0 : Int) < n1 + 1 by omega); omega
    have cF : ∀ V, Below w.heap.size w V → Calls Try.prog 10 #[.agg #[.int .i64 s0.z, .int .i64 s0.zb, .int .i64 s0.b, .int .i64 s0.r], .slice a1 n1 c1] V fun e w' => e = .returned (.bool (decide (FitT s0 x1))) ∧ Below V.heap.size V w' := fun V hV => lFits_of s0 hz a1 n1 c1 x1 V (hT.below hV) (by omega)
    have H : Hid (TsL w a1 n1 x1) := hT
    have HNN : Hid ((N : Int) = (if a2 < 0 then 0 else a2) % (n1 + 1)) := hN
    clear hN
    clear hT
    go_enter Try.func7, Try.ntmps7
    go_upto_region 6 with (first
      | (go_at_call 9; refine (k1 _).mono ?_; clear k1; rintro e v1 ⟨rfl, B1⟩; have C1 := ((Below.refl _ w).alloc (Nat.le_refl _) _).trans (B1.mono (by simp)); have K1 : Blk v1 w.heap.size [.int .i64 s0.z, .int .i64 s0.zb, .int .i64 s0.b, .int .i64 s0.r] 23 := (Blk.new' rfl rfl).below B1 (by simp); have s0' : v1.cell? ⟨w.heap.size, 0, none⟩ = some (.int .i64 s0.z) := K1.cell 0; have s1' : v1.cell? ⟨w.heap.size, 1, none⟩ = some (.int .i64 s0.zb) := K1.cell 1; have s2' : v1.cell? ⟨w.heap.size, 2, none⟩ = some (.int .i64 s0.b) := K1.cell 2; have s3' : v1.cell? ⟨w.heap.size, 3, none⟩ = some (.int .i64 s0.r) := K1.cell 3)
      | (go_at_call 10; refine (cF _ C1).mono ?_; clear cF; rintro e v2 ⟨rfl, B2⟩))
    rw [← HNN.out]
    clear HNN
    generalize (if a2 < 0 then (0 : Int) else a2) = MM
    have C2 : Below w.heap.size w v2 := C1.trans (B2.mono C1.size)
    have K2 : Blk v2 w.heap.size [.int .i64 s0.z, .int .i64 s0.zb, .int .i64 s0.b, .int .i64 s0.r] 23 := K1.below B2 K1.lt
    obtain ⟨AB, hAB⟩ : ∃ AB, AB = (if c1 = N then a1 else a1.map (·.add (N * 5))) := ⟨_, rfl⟩
    have sb := ts_slice_back a1 n1 c1 N hNn hcap v2
    have sf := fun V => ts_slice_front a1 n1 c1 N (by omega) V
    have TB : TsL v2 AB (n1 - N) (x1.drop N) := by rw [hAB]; exact (H.out.below C2).back hNn hcap
    have nB : AB = none → n1 - N = 0 ∧ c1 - N = 0 := by
      intro e
      rw [hAB] at e
      split at e
      · omega
      · have := hnil (by cases a1 with | none => rfl | some x => cases e)
        omega
    have nF : a1 = none → N = 0 ∧ c1 = 0 := fun e => by have := hnil e; omega
    rw [← hAB] at sb
    have on1 : v2.ownsRow v2.heap.size 48 5 (.slice none 0 0) 0 (rowC tC []) := World.ownsRow_nil _ _ _ _
    have HV : Hid (TsL v2 AB (n1 - N) (x1.drop N) ∧ (∀ V, Below v2.heap.size v2 V → TsL V a1 N (x1.take N)) ∧ v2.ownsRow v2.heap.size 48 5 (.slice none 0 0) 0 (rowC tC []) ∧ Blk v2 w.heap.size [.int .i64 s0.z, .int .i64 s0.zb, .int .i64 s0.b, .int .i64 s0.r] 23 ∧ Below w.heap.size w v2) := ⟨TB, fun V hV => ((H.out.below C2).below hV).front hNn, on1, K2, C2⟩
    clear TB on1 K2 C2 C1 B1 B2 K1 s0' s1' s2' s3' hAB
    generalize hff : decide (FitT s0 x1) = f
    have HF : Hid (decide (FitT s0 x1) = f) := hff
    clear hff
    go_upto_region 8 with (first
      | (at_builtin; refine wpList_append_ts rfl (.tmp 32) (.tmp 35) rfl v2.heap.size none 0 0 [] rfl HV.out.2.2.1 AB (n1 - N) (c1 - N) (x1.drop N) rfl HV.out.1 nB (by omega) (Nat.le_refl _) ?_; intro aT cT v3 oT bT; rw [Nat.zero_add] at oT; rw [Nat.zero_add]; have HT3 : Hid (v3.ownsRow v2.heap.size 48 5 (.slice aT (n1 - N) cT) (n1 - N) (rowC tC (x1.drop N)) ∧ Below v2.heap.size v2 v3) := ⟨oT, bT⟩; clear oT bT)
      | (at_builtin; refine wpList_append_ts rfl (.tmp 37) (.tmp 40) rfl v2.heap.size aT (n1 - N) cT (x1.drop N) rfl HT3.out.1 a1 N c1 (x1.take N) rfl (HV.out.2.1 _ HT3.out.2) nF (by omega) HT3.out.2.size ?_; intro aU cU v4 oU bU; have HU : Hid (v4.ownsRow v2.heap.size 48 5 (.slice aU (n1 - N + N) cU) (n1 - N + N) (rowC tC (x1.drop N ++ x1.take N)) ∧ Below v2.heap.size v2 v4) := ⟨oU, HT3.out.2.trans bU⟩; clear oU bU))
    have eN : n1 - N + N = n1 := by omega
    have K4 : Blk v4 w.heap.size [.int .i64 s0.z, .int .i64 s0.zb, .int .i64 s0.b, .int .i64 s0.r] 23 := HV.out.2.2.2.1.below HU.out.2 HV.out.2.2.2.1.lt
    have C4 : Below w.heap.size w v4 := HV.out.2.2.2.2.trans (HU.out.2.mono HV.out.2.2.2.2.size)
    have T4 : TsL v4 aU n1 (x1.drop N ++ x1.take N) := by
      have := HU.out.1
      rw [eN] at this
      exact own_tsl this (fun t ht => H.out.2.1 t (by rcases List.mem_append.1 ht with h | h; exact List.mem_of_mem_drop h; exact List.mem_of_mem_take h))
    have H4 : Hid (Blk v4 w.heap.size [.int .i64 s0.z, .int .i64 s0.zb, .int .i64 s0.b, .int .i64 s0.r] 23 ∧ Below w.heap.size w v4 ∧ TsL v4 aU n1 (x1.drop N ++ x1.take N)) := ⟨K4, C4, T4⟩
    clear K4 C4 T4 eN HU HV HT3 sb sf nB
    go_wp2
    go_loopw [10, 11] (fun ls i wr => ∃ (k : Nat) (A : Option Addr) (C : Nat), k ≤ n1 ∧ i = .int .i64 k ∧ ls = .slice A k C ∧ wr.ownsRow v4.heap.size 48 5 (.slice A k C) k (rowC tC ((x1.take k).map halfT)) ∧ Below v4.heap.size v4 wr) (fun _ i _ => n1 - (intOf i).toNat)
    case atStart => exact ⟨0, none, 0, by omega, rfl, rfl, ⟨rfl, .inl ⟨rfl, rfl⟩⟩, Below.refl _ _⟩
    case round =>
      obtain ⟨k, A, C, hk, rfl, rfl, hown, hbel⟩ := hrel
      by_cases hlt : k < n1
      · have hlt' : (k : Int) < n1 := by omega
        obtain ⟨b, off, ha, hrow⟩ := H.out.2.2.resolve_left (by omega)
        subst ha
        obtain ⟨t, ht⟩ : ∃ t, x1[k]? = some t := ⟨_, List.getElem?_eq_getElem (by rw [H.out.1]; exact hlt)⟩
        have hR := hrow k t ht
        have hB : Below w.heap.size w wr := H4.out.2.1.trans (hbel.mono H4.out.2.1.size)
        have hR' : wr.rangeAt b (off + k * 5) (tC t) := rangeAt_same hR (hB.block b (rangeAt_lt hR))
        have hq := (H.out.2.1 t (List.mem_of_getElem? ht)).2.1
        unfold FitsQ at hq
        have HT : Hid (x1[k]? = some t ∧ wr.ownsRow v4.heap.size 48 5 (.slice A k C) k (rowC tC ((x1.take k).map halfT)) ∧ Below v4.heap.size v4 wr) := ⟨ht, hown, hbel⟩
        clear ht hR hrow hown hbel hB
        go_upto_region 12 with (first
          | (refine wpList_load_mid rfl 48 (.tmp 50) rfl b (off + k * 5) rfl _ _ hR' Try.underlying48 rfl Try.info_tn ?_)
          | (refine wpList_store_mid rfl 48 (.tmp 12) (.tmp 51) rfl wr.heap.size 0 (tC t).toArray rfl rfl ?hT (tn_size t) (tn_all t) ?_; (case hT => exact tn_there _)))
        obtain ⟨g, hg⟩ : ∃ g, g = wr.heap.size := ⟨_, rfl⟩
        rw [← hg]
        generalize hU : World.setCells _ _ _ _ = U
        have pu : Blk U g (tC t) 48 ∧ Below g wr U := by
          rw [← hU]
          exact ⟨(Blk.new' (L := tn0) hg.symm rfl).setAll (by rfl), below_setCells (Nat.le_refl _) _ _ _ ((Below.refl _ _).alloc (by omega) _)⟩
        have c2 : U.cell? ⟨g, 2, none⟩ = some (.int .u64 t.quota) := pu.1.cell 2
        have f2 := pu.1.frozen 2
        have pX : Blk (U.setCell ⟨g, 2, none⟩ (.int .u64 (t.quota / 2))) g (tC (halfT t)) 48 := pu.1.set 2 _
        have bX : Below g wr (U.setCell ⟨g, 2, none⟩ (.int .u64 (t.quota / 2))) := pu.2.setCell (Nat.le_refl _) _
        have lw : v4.heap.size ≤ g := by rw [hg]; exact HT.out.2.2.size
        have bY : Below wr.heap.size wr (U.setCell ⟨g, 2, none⟩ (.int .u64 (t.quota / 2))) := by rw [← hg]; exact bX
        have HX : Hid (v4.heap.size ≤ g ∧ Below wr.heap.size wr (U.setCell ⟨g, 2, none⟩ (.int .u64 (t.quota / 2))) ∧ Below g wr (U.setCell ⟨g, 2, none⟩ (.int .u64 (t.quota / 2))) ∧ Blk (U.setCell ⟨g, 2, none⟩ (.int .u64 (t.quota / 2))) g (tC (halfT t)) 48) := ⟨lw, bY, bX, pX⟩
        clear pu hU hR' hg lw bY bX pX
        go_upto_region 13 with fail
        generalize World.setCell U _ _ = X at HX
        obtain ⟨lw, bY, bX, pX⟩ := HX.out
        clear HX
        have oX : X.ownsRow v4.heap.size 48 5 (.slice A k C) k (rowC tC ((x1.take k).map halfT)) := (below_out Non bY).own HT.out.2.1 (fun _ _ e => e)
        obtain ⟨g', C', W', hrun, o', gr⟩ := app_tn oX (halfT t) (by omega) (Nat.le_trans HT.out.2.2.size bX.size) X.heap.size rfl
        have e0 : X.cell? ⟨g, 0, none⟩ = some (.int .u32 t.id) := pX.cell 0
        have e1 : X.cell? ⟨g, 1, none⟩ = some (.slice t.ka t.kn t.kc) := pX.cell 1
        have e2 : X.cell? ⟨g, 2, none⟩ = some (.int .u64 (t.quota / 2)) := pX.cell 2
        have e3 : X.cell? ⟨g, 3, none⟩ = some (.int .u64 t.size) := pX.cell 3
        have e4 : X.cell? ⟨g, 4, none⟩ = some (.slice t.ga t.gn t.gc) := pX.cell 4
        have HN : Hid (W'.ownsRow v4.heap.size 48 5 (.slice (some ⟨g', 0, none⟩) (k + 1) C') (k + 1) (rowC tC ((x1.take (k + 1)).map halfT)) ∧ Below v4.heap.size v4 W') := by
          refine ⟨?_, ((HT.out.2.2.trans (bX.mono lw)).grown gr (Nat.le_trans HT.out.2.2.size bX.size) (fun j hj => (oX.lt j hj).1))⟩
          rw [List.take_add_one, HT.out.1, List.map_append]
          exact o'
        have hrun' : (Builtin.append_ #[24, 24] 24 #[.slice A k C, .slice (some ⟨X.heap.size, 0, none⟩) 1 1]).run Try.prog (X.alloc (.cells #[.int .u32 t.id, .slice t.ka t.kn t.kc, .int .u64 (t.quota / 2), .int .u64 t.size, .slice t.ga t.gn t.gc] 48)) = .ok (.slice (some ⟨g', 0, none⟩) (k + 1) C') W' := hrun
        clear pX bX bY oX o' gr lw hrun c2 f2
        go_wp2_with (first | (at_builtin; refine wpList_append_run rfl _ _ 24 24 rfl _ _ rfl rfl _ _ hrun' ?_) | go_in)
        go_roundw
        case rel => exact ⟨k + 1, some ⟨g', 0, none⟩, C', by omega, by go_num, rfl, HN.out.1, HN.out.2⟩
        case measure => simp [intOf]; omega
      · have hlt' : ¬ ((k : Int) < n1) := by omega
        have hkn : k = n1 := by omega
        subst hkn
        rw [List.take_of_length_le (by rw [H.out.1]; exact Nat.le_refl _)] at hown
        have hB : Below w.heap.size w wr := H4.out.2.1.trans (hbel.mono H4.out.2.1.size)
        have bA : Below wr.heap.size wr (wr.alloc (.cells #[.int .u32 1, .slice none 0 0, .int .u64 18446744073709551615, .int .u64 0, .slice none 0 0, .int .u32 2, .slice none 0 0, .int .u64 1, .int .u64 0, .slice none 0 0] 48)) := (Below.refl _ _).alloc (Nat.le_refl _) _
        have kA : Blk (wr.alloc (.cells #[.int .u32 1, .slice none 0 0, .int .u64 18446744073709551615, .int .u64 0, .slice none 0 0, .int .u32 2, .slice none 0 0, .int .u64 1, .int .u64 0, .slice none 0 0] 48)) w.heap.size [.int .i64 s0.z, .int .i64 s0.zb, .int .i64 s0.b, .int .i64 s0.r] 23 := (H4.out.1.below hbel H4.out.1.lt).alloc _
        have gA : TsL (wr.alloc (.cells #[.int .u32 1, .slice none 0 0, .int .u64 18446744073709551615, .int .u64 0, .slice none 0 0, .int .u32 2, .slice none 0 0, .int .u64 1, .int .u64 0, .slice none 0 0] 48)) (some ⟨wr.heap.size, 0, none⟩) 2 bigT := big_ts (Blk.new' rfl rfl)
        have HA : Hid (TsL (wr.alloc (.cells #[.int .u32 1, .slice none 0 0, .int .u64 18446744073709551615, .int .u64 0, .slice none 0 0, .int .u32 2, .slice none 0 0, .int .u64 1, .int .u64 0, .slice none 0 0] 48)) (some ⟨wr.heap.size, 0, none⟩) 2 bigT ∧ Blk (wr.alloc (.cells #[.int .u32 1, .slice none 0 0, .int .u64 18446744073709551615, .int .u64 0, .slice none 0 0, .int .u32 2, .slice none 0 0, .int .u64 1, .int .u64 0, .slice none 0 0] 48)) w.heap.size [.int .i64 s0.z, .int .i64 s0.zb, .int .i64 s0.b, .int .i64 s0.r] 23 ∧ TsL (wr.alloc (.cells #[.int .u32 1, .slice none 0 0, .int .u64 18446744073709551615, .int .u64 0, .slice none 0 0, .int .u32 2, .slice none 0 0, .int .u64 1, .int .u64 0, .slice none 0 0] 48)) A k (x1.map halfT) ∧ TsL (wr.alloc (.cells #[.int .u32 1, .slice none 0 0, .int .u64 18446744073709551615, .int .u64 0, .slice none 0 0, .int .u32 2, .slice none 0 0, .int .u64 1, .int .u64 0, .slice none 0 0] 48)) aU k (x1.drop N ++ x1.take N) ∧ Below w.heap.size w (wr.alloc (.cells #[.int .u32 1, .slice none 0 0, .int .u64 18446744073709551615, .int .u64 0, .slice none 0 0, .int .u32 2, .slice none 0 0, .int .u64 1, .int .u64 0, .slice none 0 0] 48))) :=
          ⟨gA, kA, (own_tsl hown (fun t ht => by obtain ⟨t', h1, rfl⟩ := List.mem_map.1 ht; exact half_fits (H.out.2.1 t' h1))).below bA, (H4.out.2.2.below hbel).below bA, hB.trans (bA.mono hB.size)⟩
        have e0 : (wr.alloc (.cells #[.int .u32 1, .slice none 0 0, .int .u64 18446744073709551615, .int .u64 0, .slice none 0 0, .int .u32 2, .slice none 0 0, .int .u64 1, .int .u64 0, .slice none 0 0] 48)).cell? ⟨w.heap.size, 0, none⟩ = some (.int .i64 s0.z) := kA.cell 0
        have e1 : (wr.alloc (.cells #[.int .u32 1, .slice none 0 0, .int .u64 18446744073709551615, .int .u64 0, .slice none 0 0, .int .u32 2, .slice none 0 0, .int .u64 1, .int .u64 0, .slice none 0 0] 48)).cell? ⟨w.heap.size, 1, none⟩ = some (.int .i64 s0.zb) := kA.cell 1
        have e2 : (wr.alloc (.cells #[.int .u32 1, .slice none 0 0, .int .u64 18446744073709551615, .int .u64 0, .slice none 0 0, .int .u32 2, .slice none 0 0, .int .u64 1, .int .u64 0, .slice none 0 0] 48)).cell? ⟨w.heap.size, 2, none⟩ = some (.int .i64 s0.b) := kA.cell 2
        have e3 : (wr.alloc (.cells #[.int .u32 1, .slice none 0 0, .int .u64 18446744073709551615, .int .u64 0, .slice none 0 0, .int .u32 2, .slice none 0 0, .int .u64 1, .int .u64 0, .slice none 0 0] 48)).cell? ⟨w.heap.size, 3, none⟩ = some (.int .i64 s0.r) := kA.cell 3
        have cR : ∀ V, Calls Try.prog 25 #[.agg #[.int .i64 s0.z, .int .i64 s0.zb, .int .i64 s0.b, .int .i64 s0.r]] V fun e w' => e = .returned (.bool (decide (RightS s0))) ∧ Below V.heap.size V w' := fun V => right_of s0 V hz
        clear hown hbel hB bA kA gA
        go_upto_region 16 with (go_at_call 25; refine (cR _).mono ?_; rintro e V ⟨rfl, BV⟩)
        clear e0 e1 e2 e3 cR
        have HB : Hid (TsL V (some ⟨wr.heap.size, 0, none⟩) 2 bigT ∧ Blk V w.heap.size [.int .i64 s0.z, .int .i64 s0.zb, .int .i64 s0.b, .int .i64 s0.r] 23 ∧ TsL V A k (x1.map halfT) ∧ TsL V aU k (x1.drop N ++ x1.take N) ∧ Below w.heap.size w V) :=
          ⟨HA.out.1.below BV, HA.out.2.1.below BV HA.out.2.1.lt, HA.out.2.2.1.below BV, HA.out.2.2.2.1.below BV, HA.out.2.2.2.2.trans (BV.mono HA.out.2.2.2.2.size)⟩
        clear HA BV
        have e0 : V.cell? ⟨w.heap.size, 0, none⟩ = some (.int .i64 s0.z) := HB.out.2.1.cell 0
        have e1 : V.cell? ⟨w.heap.size, 1, none⟩ = some (.int .i64 s0.zb) := HB.out.2.1.cell 1
        have e2 : V.cell? ⟨w.heap.size, 2, none⟩ = some (.int .i64 s0.b) := HB.out.2.1.cell 2
        have e3 : V.cell? ⟨w.heap.size, 3, none⟩ = some (.int .i64 s0.r) := HB.out.2.1.cell 3
        have r0 := fun d os => cell_regrown e0 d os
        have r1 := fun d os => cell_regrown e1 d os
        have r2 := fun d os => cell_regrown e2 d os
        have r3 := fun d os => cell_regrown e3 d os
        have sf : ∀ X : World, (Instr.slice 24 (.slice a1 k c1) none (some (.int .i64 (N : Int))) none).run Try.prog X = .ok (.slice a1 N c1) X := fun X => ts_slice_front a1 k c1 N (by omega) X
        have cT := fun d os => Calls.regrown_of (lFits_of s0 hz aU k cU _ (Go.Sort.grow (redrawn V d) os) (HB.out.2.2.2.1.below (below_regrown V d os)) (by omega))
        have cN := fun d os => Calls.regrown_of (lFits_of s0 hz a1 N c1 _ (Go.Sort.grow (redrawn V d) os) (((H.out.below HB.out.2.2.2.2).front hNn).below (below_regrown V d os)) (by omega))
        have cL := fun d os => Calls.regrown_of (lFits_of s0 hz A k C _ (Go.Sort.grow (redrawn V d) os) (HB.out.2.2.1.below (below_regrown V d os)) (by omega))
        have cB := fun d os => Calls.regrown_of (lFits_of s0 hz (some ⟨wr.heap.size, 0, none⟩) 2 2 _ (Go.Sort.grow (redrawn V d) os) (HB.out.1.below (below_regrown V d os)) (by omega))
        have cE := fun d os => Calls.regrown_of (lFits_of s0 hz none 0 0 [] (Go.Sort.grow (redrawn V d) os) ⟨rfl, (fun t ht => by cases ht), .inl rfl⟩ (by omega))
        simp only [fit_turned, HF.out] at cT
        simp only [fit_big] at cB
        simp only [fit_nil] at cE
        clear e0 e1 e2 e3
        cases f with
        | true =>
          have hfit : FitT s0 x1 := of_decide_eq_true HF.out
          simp only [decide_eq_true hfit.1] at cE ⊢
          simp only [decide_eq_true (fit_take H.out.2.1 hfit N)] at cN
          simp only [decide_eq_true (fit_half H.out.2.1 hfit)] at cL
          have HB2 : Hid (Below w.heap.size w V) := HB.out.2.2.2.2
          clear hfit
          refine wp_region_quiet_below (by kernel_rfl) (by kernel_rfl) ?_
          iterate 2 (quiet_step (fail))
          quiet_step (exact cT _ _)
          iterate 12 (quiet_step (fail))
          quiet_step (exact cN _ _)
          iterate 4 (quiet_step (fail))
          quiet_step (exact cL _ _)
          iterate 6 (quiet_step (fail))
          quiet_step (exact cB _ _)
          iterate 4 (quiet_step (fail))
          quiet_step (exact cE _ _)
          iterate 4 (quiet_step (fail))
          refine wpQuiet_nil ?_
          intro _ hw'
          obtain ⟨⟨dq, osq⟩, hw''⟩ := hw'
          subst hw''
          have bR := HB2.out.trans ((below_regrown V dq osq).mono HB2.out.size)
          clear cT cN cL cB cE r0 r1 r2 r3
          generalize Go.Sort.grow _ _ = V7 at bR ⊢
          go_wp2
          go_ret
          exact ⟨rfl, bR⟩
        | false =>
          generalize decide (RightS s0) = rt at cE ⊢
          have hRR : (rt == rt) = true := by simp
          have HB2 : Hid (Below w.heap.size w V) := HB.out.2.2.2.2
          refine wp_region_quiet_below (by kernel_rfl) (by kernel_rfl) ?_
          iterate 2 (go_big_quiet_step (fail))
          go_big_quiet_step (exact cT _ _)
          iterate 24 (go_big_quiet_step (fail))
          go_big_quiet_step (exact cB _ _)
          iterate 4 (go_big_quiet_step (fail))
          go_big_quiet_step (exact cE _ _)
          iterate 4 (go_big_quiet_step (fail))
          refine wpQuiet_nil ?_
          intro _ hw'
          obtain ⟨⟨dq, osq⟩, hw''⟩ := hw'
          subst hw''
          have bR := HB2.out.trans ((below_regrown V dq osq).mono HB2.out.size)
          clear cT cN cL cB cE r0 r1 r2 r3
          generalize Go.Sort.grow _ _ = V7 at bR ⊢
          go_wp2
          go_ret
          exact ⟨rfl, bR⟩

set_option maxRecDepth 100000 in
theorem lifted (os : Os) (started : os.Started) (H : Type) (enc : TypeId × Value → H) :
    ReturnsInHanded {} Try.checked os 7 .any (Rows.ledgerRoomSpec.pre6 enc Try.prog Try.f7 Rows.ledgerRoomRow.domain false) (Rows.ledgerRoomSpec.post enc Try.prog Try.f7 false true false false) := by
  refine returnsInHanded_of_change (C := Try.checked) own started (by kernel_rfl) Try.func7
    (ChangeSpec.witness6 (enc := enc) (C := Try.checked) false ⟨#[], #[.agg #[.int .i64 0, .int .i64 0, .int .i64 0, .int .i64 0], .slice none 0 0, .int .i64 0], []⟩ 8 (by kernel_rfl) (by kernel_rfl) (by kernel_rfl) (by kernel_rfl)) ?_
  intro W base args ds gs before hval0 hW hcnd _
  have hval : ∀ (j : Nat) t v, Try.f7.params[j]? = some t → args[j]? = some v → Value.okWide Try.prog W .any base t v := hval0
  have hW' := hW
  obtain ⟨p, q, hA0, hV, rfl, hfz, hnd⟩ := hW
  have hA : DataW.TrodAll enc Try.prog W 0 (fun _ => true) true Try.f7.params.toList args.toList ds p := hA0
  rw [Try.params7] at hA hval
  obtain ⟨v0, vs0, d0, ds0, p0, q0, hargs, rfl, rfl, h0, r0⟩ := trodAll_cons hA
  obtain ⟨v1, vs1, d1, ds1, p1, q1, rfl, rfl, rfl, h1, r1⟩ := trodAll_cons r0
  obtain ⟨v2, vs2, d2, ds2, p2, q2, rfl, rfl, rfl, h2, r2⟩ := trodAll_cons r1
  obtain ⟨rfl, rfl, rfl⟩ := trodAll_nil r2
  obtain rfl : args = #[v0, v1, v2] := by cases args; simp_all
  obtain ⟨rfl, rfl⟩ := trodVars_none hV
  have k0 := h0
  have lt0 : ∀ x ∈ p0, x.block < W.heap.size := by obtain ⟨m, hm⟩ := k0; exact DataW.trod_lt m _ _ _ hm
  obtain ⟨s0, rfl, w0⟩ := open_shape (hval 0 23 v0 rfl rfl) h0
  obtain ⟨a1, n1, c1, rfl⟩ := okWide_slice Try.underlying24 (hval 1 24 v1 rfl rfl)
  have k1 := h1
  have lt1 : ∀ x ∈ p1, x.block < W.heap.size := by obtain ⟨m, hm⟩ := k1; exact DataW.trod_lt m _ _ _ hm
  obtain ⟨x1, w1⟩ := open_tens h1
  obtain ⟨a2, rfl, rfl, rfl, w2⟩ := open_int Try.underlying3 (hval 2 3 v2 rfl rfl) h2
  clear hA0 hval0
  refine (walk s0 a1 n1 c1 x1 a2 W w0 w1 w2).mono fun e W' ⟨he, bel⟩ => ?_
  subst he
  exact ⟨_, rfl, _, _, _, [], _, [], hW', trodAll_mk1 (shut_bool Try.underlying4 _), (trodAll_cons_mk (Below.trod laidOut (by kernel_rfl) (of_decide_eq_true (by kernel_rfl)) k0 bel lt0) (trodAll_cons_mk (Below.trod laidOut (by kernel_rfl) (of_decide_eq_true (by kernel_rfl)) k1 bel lt1) (trodAll_cons_mk (shut_int Try.underlying3 w2) trodAll_mk0))), rfl, bel.frame _, fun h => by cases h⟩

theorem over : Rows.ledgerRoomRow.holds Try.pinned (OpenSpec.ofChange Rows.ledgerRoomSpec) :=
  OpenClaim.holds_of_wide 7 Try.f7 rfl rfl rfl rfl rfl rfl rfl ⟨rfl, rfl, rfl, rfl, rfl⟩ rfl rfl rfl rfl rfl (by kernel_rfl) Try.func7 (by kernel_rfl)
    (of_decide_eq_true (by kernel_rfl)) (by unfold Func.isWrapper; first | (rw [if_pos (by decide +kernel)]; kernel_rfl) | (rw [if_neg (by decide +kernel)]; exact ⟨rfl, rfl⟩))
    (fun os started H enc _ => lifted os started H enc)

end Go.Proofs.Ytkhldjpghjmgfaa.ledgerRoom
namespace Go.Proofs.Ytkhldjpghjmgfaa
/-- The statement. -/
theorem ledgerRoom_holds : Rows.LedgerRoomSaid := ledgerRoom.over
#print axioms ledgerRoom_holds
end Go.Proofs.Ytkhldjpghjmgfaa
