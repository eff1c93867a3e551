/- Tenants in memory; their quotas as a map; a new ledger. -/
import Derived.Test.YtkhldjpghjmgfaaLgT
namespace Go.Proofs.Ytkhldjpghjmgfaa
open Go.RowKit
set_option linter.unusedVariables false
set_option maxRecDepth 4000

/-- Tenants that lie in the world. -/
def TsL (w : World) (a : Option Addr) (n : Nat) (ts : List Tn) : Prop :=
  ts.length = n ∧ (∀ t ∈ ts, t.Fits) ∧ (n = 0 ∨ ∃ b off, a = some ⟨b, off, none⟩ ∧ ∀ i t, ts[i]? = some t → w.rangeAt b (off + i * 5) (tC t))
theorem rangeAt_same {w w' : World} {b o : Nat} {L : List Value} (h : w.rangeAt b o L) (hs : w'.heap[b]? = w.heap[b]?) : w'.rangeAt b o L := fun j v hv => by
  have := h j v hv
  unfold World.cell? at this ⊢
  simp only [hs]
  exact this
theorem rangeAt_lt {w : World} {b o : Nat} {v : Value} {L : List Value} (h : w.rangeAt b o (v :: L)) : b < w.heap.size := by
  have := h 0 v rfl
  exact old_block this
theorem TsL.out {O : Nat → Prop} {w w' : World} {a : Option Addr} {n : Nat} {ts : List Tn} (h : TsL w a n ts) (ho : Out O w w') (hn : ∀ x, a = some x → x.block < w.heap.size → ¬ O x.block) : TsL w' a n ts := by
  obtain ⟨h1, h2, h3⟩ := h
  refine ⟨h1, h2, ?_⟩
  rcases h3 with h3 | ⟨b, off, ha, h3⟩
  · exact .inl h3
  · exact .inr ⟨b, off, ha, fun i t ht => by
      have hr := h3 i t ht
      have hl : b < w.heap.size := rangeAt_lt hr
      exact rangeAt_same hr (ho.block b hl (hn _ ha hl))⟩
theorem TsL.below {w w' : World} {a : Option Addr} {n : Nat} {ts : List Tn} (h : TsL w a n ts) (hb : Below w.heap.size w w') : TsL w' a n ts := h.out (below_out Non hb) (fun _ _ _ e => e)
theorem Try.info_tn : (Try.prog.info? 48).map (·.size) = some 5 := by kernel_rfl
def tn0 : List Value := [.int .u32 0, .slice none 0 0, .int .u64 0, .int .u64 0, .slice none 0 0]
theorem tn_there (w : World) : (w.alloc (.cells #[.int .u32 0, .slice none 0 0, .int .u64 0, .int .u64 0, .slice none 0 0] 48)).there w.heap.size 0 5 :=
  (Blk.new' (L := tn0) rfl rfl).there 0 5 (by simp [tn0])
theorem tn_all (t : Tn) : (tC t).toArray.all (·.oneCell') = true := all_oneCell_toArray (tC_one t)
theorem tn_size (t : Tn) : (Try.prog.info? 48).map (·.size) = some (tC t).toArray.size := Try.info_tn

theorem quotas_of (a : Option Addr) (n c : Nat) (ts : List Tn) (w : World) (h : TsL w a n ts) (hn : n ≤ 1000) :
    Calls Try.prog 26 #[.slice a n c] w fun e w' => e = .returned (.map (some w.heap.size)) ∧ QMap w' w.heap.size n (quoS ts) ∧ Below w.heap.size w w' := by
  have hmk := make_qmap
  obtain ⟨q, hq⟩ : ∃ q, q = w.heap.size := ⟨_, rfl⟩
  have MM := QMap.made w
  rw [← hq] at MM
  have H : Hid (q = w.heap.size ∧ TsL w a n ts) := ⟨hq, h⟩
  have HM : Hid (QMap (w.alloc (.map #[] 0)) q 0 [] ∧ Below q w (w.alloc (.map #[] 0))) := ⟨MM, (Below.refl _ _).alloc (by omega) _⟩
  rw [← hq]
  clear h MM
  go_enter Try.func26, Try.ntmps26
  go_wp2
  rw [← hq]
  clear hmk
  generalize hV : World.alloc w _ = V at HM
  clear hV hq
  go_loopw [11] (fun i wr => ∃ k : Nat, k ≤ n ∧ i = .int .i64 k ∧ QMap wr q k (quoS (ts.take k)) ∧ Below q w wr) (fun i _ => n - (intOf i).toNat)
  case atStart => exact ⟨0, by omega, rfl, HM.out.1, HM.out.2⟩
  case round =>
    obtain ⟨k, hk, rfl, hmap, hbel⟩ := hrel
    have HK : Hid (QMap wr q k (quoS (ts.take k)) ∧ Below q w wr) := ⟨hmap, hbel⟩
    clear hmap hbel HM
    by_cases hlt : k < n
    · have hlt' : (k : Int) < n := by omega
      obtain ⟨b, off, ha, hrow⟩ := H.out.2.2.2.resolve_left (by omega)
      subst ha
      obtain ⟨t, ht⟩ : ∃ t, ts[k]? = some t := ⟨_, List.getElem?_eq_getElem (by rw [H.out.2.1]; exact hlt)⟩
      have hR := hrow k t ht
      have hR' : wr.rangeAt b (off + k * 5) (tC t) := rangeAt_same hR (HK.out.2.block b (by rw [H.out.1]; exact rangeAt_lt hR))
      have hf : t.Fits := H.out.2.2.1 t (List.mem_of_getElem? ht)
      have HT : Hid (ts[k]? = some t ∧ t.Fits) := ⟨ht, hf⟩
      clear ht hf hR hrow
      go_upto_region 5 with (first
        | (refine wpList_load_mid rfl 48 (.tmp 13) rfl b (off + k * 5) rfl _ _ hR' Try.underlying48 rfl Try.info_tn ?_)
        | (refine wpList_store_mid rfl 48 (.tmp 5) (.tmp 14) rfl wr.heap.size 0 (tC t).toArray rfl rfl ?hT (tn_size t) (tn_all t) ?_; (case hT => exact tn_there _)))
      obtain ⟨g, hg⟩ : ∃ g, g = wr.heap.size := ⟨_, rfl⟩
      rw [← hg]
      generalize hU : World.setCells _ _ _ _ = U
      have pu : Blk U g (tC t) 48 ∧ Below g wr U := by
        rw [← hU]
        exact ⟨(Blk.new' (L := tn0) hg.symm rfl).setAll (by rfl), below_setCells (Nat.le_refl _) _ _ _ ((Below.refl _ _).alloc (by omega) _)⟩
      obtain ⟨u0, u1⟩ := pu
      have hqg : q < g := by have := HK.out.1.lt; omega
      have hQ : QMap U q k (quoS (ts.take k)) := HK.out.1.same (u1.block q hqg)
      have c0 : U.cell? ⟨g, 0, none⟩ = some (.int .u32 t.id) := u0.cell 0
      have c2 : U.cell? ⟨g, 2, none⟩ = some (.int .u64 t.quota) := u0.cell 2
      obtain ⟨W, hput, hQ', hO⟩ := hQ.put (quo_rise _) (by omega) HT.out.2.1 HT.out.2.2.1
      have HW : Hid (QMap W q (k + 1) (quoS (ts.take (k + 1))) ∧ Below q w W) := by
        refine ⟨by rw [quo_next HT.out.1]; exact hQ', (HK.out.2.trans (u1.mono (by omega))).trans (hO.below ?_ ?_)⟩
        · have := hQ.lt; omega
        · rintro j rfl; exact Nat.le_refl _
      clear hU hg u1 hR' hQ hQ' hO u0
      go_wp2
      go_roundw
      case rel => exact ⟨k + 1, by omega, by go_num, HW.out.1, HW.out.2⟩
      case measure => simp [intOf]; omega
    · have hlt' : ¬ ((k : Int) < n) := by omega
      have hkn : k = n := by omega
      subst hkn
      go_wp2
      go_ret
      exact ⟨rfl, by have := HK.out.1; rwa [List.take_of_length_le (by rw [H.out.2.1]; exact Nat.le_refl _)] at this, HK.out.2⟩
theorem lNew_of (a : Option Addr) (n c : Nat) (ts : List Tn) (w : World) (h : TsL w a n ts) (hn : n ≤ 1000) :
    Calls Try.prog 13 #[.slice a n c] w fun e w' => ∃ p b1 b2, e = .returned (.pointer (some ⟨p, 0, none⟩)) ∧ LP w' p b1 b2 n 0 (quoS ts) (fun _ => 0) ∧ Below w.heap.size w w' ∧ w.heap.size ≤ p ∧ w.heap.size ≤ b1 ∧ w.heap.size ≤ b2 := by
  have c1 := quotas_of a n c ts w h hn
  have hmk := make_qmap0
  have H : Hid (TsL w a n ts) := h
  clear h
  go_enter Try.func13, Try.ntmps13
  go_wp2_with (go_at_call 26; refine c1.mono ?_; rintro e V ⟨rfl, hQ, hB⟩)
  go_ret
  have e2 := UMap.made V
  have lq := hQ.lt
  refine ⟨V.heap.size + 1, w.heap.size, V.heap.size, rfl, ⟨?_, ?_, ?_, by omega, quo_rise _, quo_fits H.out.2.1, fun i => ⟨Int.le_refl _, (quoI_fits (quo_fits H.out.2.1) i).1⟩⟩, ?_, by omega, by omega, by omega⟩
  · exact Blk.new' (by simp) rfl
  · exact (hQ.same (Below.heap_alloc _ _ _ lq)).same (Below.heap_alloc _ _ _ (Nat.lt_of_lt_of_le lq (by simp)))
  · exact e2.same (Below.heap_alloc _ _ _ e2.lt)
  · exact (hB.alloc (by omega) _).alloc (by simp; omega) _
end Go.Proofs.Ytkhldjpghjmgfaa
