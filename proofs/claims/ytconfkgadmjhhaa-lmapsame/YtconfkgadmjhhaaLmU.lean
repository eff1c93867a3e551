/- What one call of Put does. -/
import Derived.Test.YtconfkgadmjhhaaLmF
import Derived.Deep.DeepCutAuto
namespace Go.Proofs.Ytconfkgadmjhhaa
open Go.RowKit
set_option linter.unusedVariables false
set_option maxRecDepth 4000

def PutA (w : World) (p b1 b2 : Nat) (S : List Pl) (c : Nat) (x : Pl) (g1 g2 : Nat) (wr : World) : Prop :=
  LmP wr p b1 b2 S c ∧ Blk wr g1 (prL .u32 .u64 x.1) 63 ∧ Blk wr g2 (prL .i64 .i64 x.2) 60 ∧ w.heap.size ≤ g1 ∧ w.heap.size ≤ g2 ∧ Out (Two b1 b2) w wr
set_option maxHeartbeats 4000000 in
theorem mPut_of (p b1 b2 : Nat) (S : List Pl) (c : Nat) (x : Pl) (w : World) (h : LmP w p b1 b2 S c) (hx : FitsP x) (hc : c < 100000) :
    Calls Try.prog 24 #[.pointer (some ⟨p, 0, none⟩), .agg #[.int .u32 x.1.1, .int .u64 x.1.2, .int .i64 x.2.1, .int .i64 x.2.2]] w fun e w' => e = .returned (.tuple #[]) ∧ LmP w' p b1 b2 (putS S x) (c + 1) ∧ Out (Two b1 b2) w w' := by
  have H : Hid (LmP w p b1 b2 S c) := h
  clear h
  go_enter Try.func24, Try.ntmps24
  go_wp2
  go_cut [4, 5] (fun s4 s5 wr => ∃ g1 g2, s4 = .pointer (some ⟨g1, 0, none⟩) ∧ s5 = .pointer (some ⟨g2, 0, none⟩) ∧ PutA w p b1 b2 S c x g1 g2 wr)
  case first =>
    go_region
    all_goals go_wp2_with fail
    all_goals go_meet
    all_goals first
      | (refine ⟨w.heap.size + 1 + 1, w.heap.size + 1, rfl, rfl, (((H.out.alloc _).alloc _).alloc _).drew, (Blk.new' (by simp) rfl).drew, ((Blk.new' (by simp) rfl).alloc _).drew, by omega, by omega, ((((Out.refl _ _).alloc _).alloc _).alloc _).drew⟩; done)
      | (refine ⟨w.heap.size + 1, w.heap.size + 1 + 1, rfl, rfl, (((H.out.alloc _).alloc _).alloc _).drew, ((Blk.new' (by simp) rfl).alloc _).drew, (Blk.new' (by simp) rfl).drew, by omega, by omega, ((((Out.refl _ _).alloc _).alloc _).alloc _).drew⟩; done)
  case rest =>
    obtain ⟨g1, g2, rfl, rfl, hA⟩ := hcut
    clear H
    have C := mForget_of p b1 b2 S c x.1 wc hA.1 hx.1
    have n0 := hA.2.1.cell 0
    have n1 := hA.2.1.cell 1
    simp only [prL, List.getElem?_cons_zero, List.getElem?_cons_succ] at n0 n1
    have HA : Hid (PutA w p b1 b2 S c x g1 g2 wc) := hA
    clear hA
    go_wp2_with fail
    refine C.mono ?_
    rintro e V ⟨rfl, hV, oV⟩
    have aV : PutA w p b1 b2 (dropS S x.1) c x g1 g2 V := by
      obtain ⟨h0, h1, h2, h3, h4, h5⟩ := HA.out
      refine ⟨hV, oV.blk h1 ?_, oV.blk h2 ?_, h3, h4, h5.trans oV (fun j e => .inl e)⟩
      · rintro (e | e)
        · exact h0.m1.no_blk h1 e
        · exact h0.m2.no_blk h1 e
      · rintro (e | e)
        · exact h0.m1.no_blk h2 e
        · exact h0.m2.no_blk h2 e
    have HS : Hid (Good S) := HA.out.1.good
    clear HA C n0 n1 hV oV
    have hl := aV.1.drew.lookS hx.2
    have c1 := aV.1.hp.cell 1
    have hl2 := (aV.1.alloc (.cells #[.int .u32 0, .int .u64 0] 63)).drew.lookS hx.2
    have d1 := (aV.1.alloc (.cells #[.int .u32 0, .int .u64 0] 63)).hp.cell 1
    have s0 := aV.2.2.1.cell 0
    have s1 := aV.2.2.1.cell 1
    have s0' := (aV.2.2.1.alloc (.cells #[.int .u32 0, .int .u64 0] 63)).cell 0
    have s1' := (aV.2.2.1.alloc (.cells #[.int .u32 0, .int .u64 0] 63)).cell 1
    simp only [prL, List.getElem?_cons_zero, List.getElem?_cons_succ] at c1 d1 s0 s1 s0' s1'
    have HV : Hid (PutA w p b1 b2 (dropS S x.1) c x g1 g2 V) := aV
    clear aV
    go_wp2_with fail
    cases ho : atS (dropS S x.1) x.2 with
    | none =>
      simp only [ho, Option.getD_none, Option.isSome_none] at hl hl2
      go_cut [6, 7] (fun s6 s7 wr => s6 = .pointer (some ⟨V.heap.size, 0, none⟩) ∧ s7 = .bool false ∧ wr = (V.alloc (.cells #[.int .u32 0, .int .u64 0] 63)).drew)
      case first =>
        clear ho
        go_region
        all_goals go_wp2_with fail
        all_goals go_meet
        all_goals exact ⟨rfl, rfl, rfl⟩
      case rest =>
        obtain ⟨rfl, rfl, rfl⟩ := hcut
        obtain ⟨h0, h1, h2, h3, h4, h5⟩ := HV.out
        have HY : Hid (PutA w p b1 b2 (dropS S x.1) c x g1 g2 (V.alloc (.cells #[.int .u32 0, .int .u64 0] 63)).drew) := ⟨(h0.alloc _).drew, (h1.alloc _).drew, (h2.alloc _).drew, h3, h4, (h5.alloc _).drew⟩
        have hg0 := get_drop S x.1
        have ha0 := ho
        have hmem := put_mem0 HS.out x ho
        clear h0 h1 h2 h3 h4 h5 ho hl hl2 c1 d1 s0 s1 s0' s1' HV
        generalize (V.alloc (.cells #[.int .u32 0, .int .u64 0] 63)).drew = Y at HY ⊢
        go_wp2_with fail
        obtain ⟨h0, h1, h2, h3, h4, h5⟩ := HY.out
        obtain ⟨v1, v2, k1, k2, Y1, Y2, Y3, Y4, e1, e2, e3, e4, hQ, o1, o2, o3, o4⟩ := h0.drew.put1 hx hc hg0 ha0 (putS S x) (HS.out.put hx) hmem
        have nb : ∀ g, g = g1 ∨ g = g2 ∨ g = p → ¬ Two b1 b2 g := by
          rintro g (rfl | rfl | rfl) (e | e)
          · exact h0.m1.no_blk h1 e
          · exact h0.m2.no_blk h1 e
          · exact h0.m1.no_blk h2 e
          · exact h0.m2.no_blk h2 e
          · exact h0.m1.no_blk h0.hp e
          · exact h0.m2.no_blk h0.hp e
        have HQ : Hid (LmP Y4 p b1 b2 (putS S x) (c + 1) ∧ Out (Two b1 b2) w Y4) := ⟨hQ, h5.drew.trans o4 (fun j e => .inl e)⟩
        have fp0Y := h0.hp.cell 0
        have fp1Y := h0.hp.cell 1
        have fn0Y := h1.cell 0
        have fn1Y := h1.cell 1
        have fs0Y := h2.cell 0
        have fs1Y := h2.cell 1
        have fp0Y1 := (o1.blk h0.hp.drew (nb _ (.inr (.inr rfl)))).cell 0
        have fp1Y1 := (o1.blk h0.hp.drew (nb _ (.inr (.inr rfl)))).cell 1
        have fn0Y1 := (o1.blk h1.drew (nb _ (.inl rfl))).cell 0
        have fn1Y1 := (o1.blk h1.drew (nb _ (.inl rfl))).cell 1
        have fs0Y1 := (o1.blk h2.drew (nb _ (.inr (.inl rfl)))).cell 0
        have fs1Y1 := (o1.blk h2.drew (nb _ (.inr (.inl rfl)))).cell 1
        have fp0Y2 := (o2.blk h0.hp.drew (nb _ (.inr (.inr rfl)))).cell 0
        have fp1Y2 := (o2.blk h0.hp.drew (nb _ (.inr (.inr rfl)))).cell 1
        have fn0Y2 := (o2.blk h1.drew (nb _ (.inl rfl))).cell 0
        have fn1Y2 := (o2.blk h1.drew (nb _ (.inl rfl))).cell 1
        have fs0Y2 := (o2.blk h2.drew (nb _ (.inr (.inl rfl)))).cell 0
        have fs1Y2 := (o2.blk h2.drew (nb _ (.inr (.inl rfl)))).cell 1
        have fp0Y3 := (o3.blk h0.hp.drew (nb _ (.inr (.inr rfl)))).cell 0
        have fp1Y3 := (o3.blk h0.hp.drew (nb _ (.inr (.inr rfl)))).cell 1
        have fn0Y3 := (o3.blk h1.drew (nb _ (.inl rfl))).cell 0
        have fn1Y3 := (o3.blk h1.drew (nb _ (.inl rfl))).cell 1
        have fs0Y3 := (o3.blk h2.drew (nb _ (.inr (.inl rfl)))).cell 0
        have fs1Y3 := (o3.blk h2.drew (nb _ (.inr (.inl rfl)))).cell 1
        simp only [prL, List.getElem?_cons_zero, List.getElem?_cons_succ] at fp0Y fp1Y fn0Y fn1Y fs0Y fs1Y fp0Y1 fp1Y1 fn0Y1 fn1Y1 fs0Y1 fs1Y1 fp0Y2 fp1Y2 fn0Y2 fn1Y2 fs0Y2 fs1Y2 fp0Y3 fp1Y3 fn0Y3 fn1Y3 fs0Y3 fs1Y3
        clear h0 h1 h2 h3 h4 h5 hQ o1 o2 o3 o4 nb HY hmem
        go_region
        all_goals go_wp2
        all_goals (first | go_end0 | refine bodyPost_ret (results_none rfl _ _ _) rfl ?_)
        all_goals exact ⟨rfl, HQ.out⟩
    | some m =>
      simp only [ho, Option.getD_some, Option.isSome_some] at hl hl2
      go_cut [6, 7] (fun s6 s7 wr => s6 = .pointer (some ⟨V.heap.size, 0, none⟩) ∧ s7 = .bool true ∧ wr = (V.alloc (.cells #[.int .u32 m.1, .int .u64 m.2] 63)).drew)
      case first =>
        clear ho
        go_region
        all_goals go_wp2_with fail
        all_goals go_meet
        all_goals exact ⟨rfl, rfl, rfl⟩
      case rest =>
        obtain ⟨rfl, rfl, rfl⟩ := hcut
        have hm : FitsN m := (HV.out.1.good.fits _ ((atS_some HV.out.1.good).1 ho)).1
        have C := mForget_of p b1 b2 (dropS S x.1) c m ((V.alloc (.cells #[.int .u32 m.1, .int .u64 m.2] 63)).drew) (HV.out.1.alloc _).drew hm
        have HO : Hid (atS (dropS S x.1) x.2 = some m) := ho
        clear hl hl2 c1 d1 s0 s1 s0' s1' ho
        go_wp2_with fail
        refine C.mono ?_
        rintro e Y ⟨rfl, hZ, oZ⟩
        obtain ⟨h0, h1, h2, h3, h4, h5⟩ := HV.out
        have HY : Hid (PutA w p b1 b2 (dropS (dropS S x.1) m) c x g1 g2 Y) := by
          refine ⟨hZ, oZ.blk (h1.alloc _).drew ?_, oZ.blk (h2.alloc _).drew ?_, h3, h4, (h5.alloc _).drew.trans oZ (fun j e => .inl e)⟩
          · rintro (e | e)
            · exact h0.m1.no_blk h1 e
            · exact h0.m2.no_blk h1 e
          · rintro (e | e)
            · exact h0.m1.no_blk h2 e
            · exact h0.m2.no_blk h2 e
        have hg0 := get_drop2 S x.1 m
        have ha0 := at_drop2 h0.good HO.out
        have hmem := put_mem HS.out x HO.out
        clear h0 h1 h2 h3 h4 h5 hZ oZ HV C HO
        go_wp2_with fail
        obtain ⟨h0, h1, h2, h3, h4, h5⟩ := HY.out
        obtain ⟨v1, v2, k1, k2, Y1, Y2, Y3, Y4, e1, e2, e3, e4, hQ, o1, o2, o3, o4⟩ := h0.drew.put1 hx hc hg0 ha0 (putS S x) (HS.out.put hx) hmem
        have nb : ∀ g, g = g1 ∨ g = g2 ∨ g = p → ¬ Two b1 b2 g := by
          rintro g (rfl | rfl | rfl) (e | e)
          · exact h0.m1.no_blk h1 e
          · exact h0.m2.no_blk h1 e
          · exact h0.m1.no_blk h2 e
          · exact h0.m2.no_blk h2 e
          · exact h0.m1.no_blk h0.hp e
          · exact h0.m2.no_blk h0.hp e
        have HQ : Hid (LmP Y4 p b1 b2 (putS S x) (c + 1) ∧ Out (Two b1 b2) w Y4) := ⟨hQ, h5.drew.trans o4 (fun j e => .inl e)⟩
        have fp0Y := h0.hp.cell 0
        have fp1Y := h0.hp.cell 1
        have fn0Y := h1.cell 0
        have fn1Y := h1.cell 1
        have fs0Y := h2.cell 0
        have fs1Y := h2.cell 1
        have fp0Y1 := (o1.blk h0.hp.drew (nb _ (.inr (.inr rfl)))).cell 0
        have fp1Y1 := (o1.blk h0.hp.drew (nb _ (.inr (.inr rfl)))).cell 1
        have fn0Y1 := (o1.blk h1.drew (nb _ (.inl rfl))).cell 0
        have fn1Y1 := (o1.blk h1.drew (nb _ (.inl rfl))).cell 1
        have fs0Y1 := (o1.blk h2.drew (nb _ (.inr (.inl rfl)))).cell 0
        have fs1Y1 := (o1.blk h2.drew (nb _ (.inr (.inl rfl)))).cell 1
        have fp0Y2 := (o2.blk h0.hp.drew (nb _ (.inr (.inr rfl)))).cell 0
        have fp1Y2 := (o2.blk h0.hp.drew (nb _ (.inr (.inr rfl)))).cell 1
        have fn0Y2 := (o2.blk h1.drew (nb _ (.inl rfl))).cell 0
        have fn1Y2 := (o2.blk h1.drew (nb _ (.inl rfl))).cell 1
        have fs0Y2 := (o2.blk h2.drew (nb _ (.inr (.inl rfl)))).cell 0
        have fs1Y2 := (o2.blk h2.drew (nb _ (.inr (.inl rfl)))).cell 1
        have fp0Y3 := (o3.blk h0.hp.drew (nb _ (.inr (.inr rfl)))).cell 0
        have fp1Y3 := (o3.blk h0.hp.drew (nb _ (.inr (.inr rfl)))).cell 1
        have fn0Y3 := (o3.blk h1.drew (nb _ (.inl rfl))).cell 0
        have fn1Y3 := (o3.blk h1.drew (nb _ (.inl rfl))).cell 1
        have fs0Y3 := (o3.blk h2.drew (nb _ (.inr (.inl rfl)))).cell 0
        have fs1Y3 := (o3.blk h2.drew (nb _ (.inr (.inl rfl)))).cell 1
        simp only [prL, List.getElem?_cons_zero, List.getElem?_cons_succ] at fp0Y fp1Y fn0Y fn1Y fs0Y fs1Y fp0Y1 fp1Y1 fn0Y1 fn1Y1 fs0Y1 fs1Y1 fp0Y2 fp1Y2 fn0Y2 fn1Y2 fs0Y2 fs1Y2 fp0Y3 fp1Y3 fn0Y3 fn1Y3 fs0Y3 fs1Y3
        clear h0 h1 h2 h3 h4 h5 hQ o1 o2 o3 o4 nb HY hmem
        go_region
        all_goals go_wp2
        all_goals (first | go_end0 | refine bodyPost_ret (results_none rfl _ _ _) rfl ?_)
        all_goals exact ⟨rfl, HQ.out⟩
end Go.Proofs.Ytconfkgadmjhhaa
