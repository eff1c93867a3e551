/- Of whatever requests: as many as fit into a new pipe are taken in, in their order; then they are taken out one by one, from the front in that order, from the back the other way. -/
import Derived.Test.YthmhphjblglcoaaRows
import Derived.Test.YthmhphjblglcoaaPiLw
import Derived.WalkKit
import Derived.ProofKit
import Derived.OpenShut
import Derived.ShutString
import Derived.ChangeOld
import Derived.Below
namespace Go.Proofs.Ythmhphjblglcoaa.pipeFills
open Go.ChangeShapes Go.WideShapes Go.ChangeAt Go.RowKit
open Go.ChangeMaps (open_string shut_string)
set_option linter.unusedVariables false

theorem own : ownKnob Try.prog.godebug = none := by kernel_rfl
theorem laidOut : laidOutB Try.prog = true := by kernel_rfl

theorem hid_of {p : Prop} (h : p) : Hid p := h
theorem take_erase {α : Type} (l : List α) (K : Nat) : (l.take (K + 1)).eraseIdx K = l.take K := by
  rw [List.eraseIdx_eq_take_drop_succ, List.take_take, List.drop_take]
  simp
theorem addL_take {l : List Pq} {j : Nat} {p : Pq} (hp : l[j]? = some p) : addL ((l.take j).take 16) p = (l.take (j + 1)).take 16 := by
  have hj := (List.getElem?_eq_some_iff.1 hp).1
  rw [take_snoc hp]
  unfold addL
  by_cases h : 16 ≤ j
  · rw [if_pos (by rw [List.length_take, List.length_take]; omega), List.take_append_of_le_length (by rw [List.length_take]; omega)]
  · rw [if_neg (by rw [List.length_take, List.length_take]; omega), List.take_of_length_le (l := l.take j) (by rw [List.length_take]; omega), List.take_of_length_le (l := l.take j ++ [p]) (by rw [List.length_append, List.length_take, List.length_singleton]; omega)]
/-- What waits once j were taken out, of the front or of the back. -/
def remB (back : Bool) (l : List Pq) (j : Nat) : List Pq := if back then l.take (l.length - j) else l.drop j
theorem remB_length (back : Bool) (l : List Pq) (j : Nat) (h : j ≤ l.length) : (remB back l j).length = l.length - j := by
  unfold remB; split <;> simp
set_option maxRecDepth 10000 in
set_option maxHeartbeats 4000000 in
theorem walk (a0 : Option Addr) (n0 c0 : Nat) (rs0 : List (Rq × List Int)) (a1 : Bool) (w : World) (w0 : RsIn w a0 n0 rs0 ∧ n0 ≤ c0 ∧ (a0 = none → n0 = 0 ∧ c0 = 0)) :
    Calls Try.prog 6 #[.slice a0 n0 c0, .bool a1] w fun e w' => e = .returned (.bool true) ∧ Below w.heap.size w w' := by
  obtain ⟨hrs, hnc, hnil⟩ := w0
  have hln := hrs.1
  have H : Hid (RsIn w a0 n0 rs0) := hrs
  clear hrs hnc hnil
  by_cases h40 : (40 : Int) < n0
  · go_enter Try.func6, Try.ntmps6
    go_wp2_with (go_at_call 8; refine (known_b (Below.refl _ _)).mono ?_; rintro e V ⟨rfl, hb⟩)
    go_ret
    exact ⟨rfl, hb⟩
  · go_enter Try.func6, Try.ntmps6
    go_wp2_with (first
      | (go_at_call 8; refine (known_b (Below.refl _ _)).mono ?_; rintro e V ⟨rfl, hb⟩)
      | (go_at_call 9; refine (pNew_b hb).mono ?_; rintro e V1 ⟨b, rfl, hbb, hp1, hb1⟩))
    have HB : Hid (w.heap.size ≤ b) := hbb
    clear hb hbb
    go_loopw [6] (fun x wr => ∃ (j : Nat), x = .int .i64 j ∧ j ≤ n0 ∧ (∀ i p, i < j → rs0[i]? = some p → p.2.length ≤ 100) ∧ PP All wr b ((rs0.take j).take 16) ∧ Below w.heap.size w wr) (fun x _ => n0 - (intOf x).toNat)
    case atStart => exact ⟨0, rfl, Nat.zero_le _, fun i p hi => by omega, by simpa using hp1, hb1⟩
    case round =>
      clear hp1 hb1
      obtain ⟨j, rfl, hj, hall, hp, hbl⟩ := hrel
      by_cases hlt : j < n0
      · have hj' : (j : Int) < n0 := by omega
        have hwj : IntKind.i64.wrap ((j : Int) + 1) = (j : Int) + 1 := by rw [IntKind.wrap_i64]; omega
        obtain ⟨g, off, p, A, k, C, rfl, ho, hf, hd, hc⟩ := (H.out.below hbl).at hlt
        have x0 : wr.cell? ⟨g, off + j * 6, none⟩ = some (.int .u16 p.1.fl) := hc 0 _ rfl
        have x1 : wr.cell? ⟨g, off + j * 6 + 1, none⟩ = some (.int .u16 p.1.kd) := hc 1 _ rfl
        have x2 : wr.cell? ⟨g, off + j * 6 + 2, none⟩ = some (.int .u64 p.1.ck) := hc 2 _ rfl
        have x3 : wr.cell? ⟨g, off + j * 6 + 3, none⟩ = some (.int .u64 p.1.ofs) := hc 3 _ rfl
        have x4 : wr.cell? ⟨g, off + j * 6 + 4, none⟩ = some (.int .u32 p.1.ln) := hc 4 _ rfl
        have x5 : wr.cell? ⟨g, off + j * 6 + 5, none⟩ = some (.slice A k C) := hc 5 _ rfl
        have HO : Hid (rs0[j]? = some p ∧ p.2.length = k ∧ (∀ i p, i < j → rs0[i]? = some p → p.2.length ≤ 100) ∧ Below w.heap.size w wr ∧ PP All wr b ((rs0.take j).take 16) ∧ DIn wr A k C p.2 ∧ p.1.Fits) := ⟨ho, hd.1.1, hall, hbl, hp, hd, hf⟩
        clear ho hf hd hc hall hbl hp
        by_cases h1 : (100 : Int) < k
        · go_wp2
          go_ret
          exact ⟨rfl, HO.out.2.2.2.1⟩
        · have HN : Hid (addL ((rs0.take j).take 16) p = (rs0.take (j + 1)).take 16 ∧ ((rs0.take j).take 16).length = min j 16) := ⟨addL_take HO.out.1, by rw [List.length_take, List.length_take]; omega⟩
          by_cases h16 : j < 16
          · have h16' : (j : Int) < 16 := by omega
            have HA : Hid (Calls Try.prog 13 #[.pointer (some ⟨b, 0, none⟩), .agg #[.int .u16 p.1.fl, .int .u16 p.1.kd, .int .u64 p.1.ck, .int .u64 p.1.ofs, .int .u32 p.1.ln, .slice A k C]] wr fun e w' => e = .returned (.bool true) ∧ PP All w' b ((rs0.take (j + 1)).take 16) ∧ Below w.heap.size w w') := by
              refine (pAdd_b p A k C HB.out HO.out.2.2.2.2.1 HO.out.2.2.2.1 HO.out.2.2.2.2.2.1 (by omega) HO.out.2.2.2.2.2.2).mono ?_
              rintro e w' ⟨rfl, h2, h3⟩
              rw [HN.out.1] at h2
              exact ⟨by rw [HN.out.2, decide_eq_true (by omega)], h2, h3⟩
            go_wp2_with (go_at_call 13; refine HA.out.mono ?_; rintro e w2 ⟨rfl, hp2, hb2⟩; have H2 : Hid (PP All w2 b ((rs0.take (j + 1)).take 16) ∧ Below w.heap.size w w2) := ⟨hp2, hb2⟩; clear hp2 hb2)
            go_roundw
            case rel => exact ⟨j + 1, by simp, by omega, fun i q hi hq => by
              by_cases hij : i < j
              · exact HO.out.2.2.1 i q hij hq
              · obtain rfl : i = j := by omega
                rw [HO.out.1] at hq; cases hq
                have := HO.out.2.1; omega, H2.out⟩
            case measure => simp [intOf]; omega
          · have h16' : ¬ (j : Int) < 16 := by omega
            have HA : Hid (Calls Try.prog 13 #[.pointer (some ⟨b, 0, none⟩), .agg #[.int .u16 p.1.fl, .int .u16 p.1.kd, .int .u64 p.1.ck, .int .u64 p.1.ofs, .int .u32 p.1.ln, .slice A k C]] wr fun e w' => e = .returned (.bool false) ∧ PP All w' b ((rs0.take (j + 1)).take 16) ∧ Below w.heap.size w w') := by
              refine (pAdd_b p A k C HB.out HO.out.2.2.2.2.1 HO.out.2.2.2.1 HO.out.2.2.2.2.2.1 (by omega) HO.out.2.2.2.2.2.2).mono ?_
              rintro e w' ⟨rfl, h2, h3⟩
              rw [HN.out.1] at h2
              exact ⟨by rw [HN.out.2, decide_eq_false (by omega)], h2, h3⟩
            go_wp2_with (go_at_call 13; refine HA.out.mono ?_; rintro e w2 ⟨rfl, hp2, hb2⟩; have H2 : Hid (PP All w2 b ((rs0.take (j + 1)).take 16) ∧ Below w.heap.size w w2) := ⟨hp2, hb2⟩; clear hp2 hb2)
            go_roundw
            case rel => exact ⟨j + 1, by simp, by omega, fun i q hi hq => by
              by_cases hij : i < j
              · exact HO.out.2.2.1 i q hij hq
              · obtain rfl : i = j := by omega
                rw [HO.out.1] at hq; cases hq
                have := HO.out.2.1; omega, H2.out⟩
            case measure => simp [intOf]; omega
      · obtain rfl : j = n0 := by omega
        rw [← hln, List.take_of_length_le (Nat.le_refl _)] at hp
        have HO : Hid ((∀ p ∈ rs0, p.2.length ≤ 100) ∧ PP All wr b (rs0.take 16) ∧ Below w.heap.size w wr) := ⟨fun p hp => by obtain ⟨i, hi, rfl⟩ := List.mem_iff_getElem.1 hp; exact hall i _ (by omega) (by simp), hp, hbl⟩
        clear hp hbl hall
        obtain ⟨m, hm⟩ : ∃ m, m = min j 16 := ⟨_, rfl⟩
        have hmm : (if (16 : Int) < (j : Int) then (16 : Int) else (j : Int)) = (m : Int) := by split <;> omega
        have HM : Hid (m = min j 16 ∧ rs0.length = j) := ⟨hm, hln⟩
        have hmj : m ≤ j := by omega
        have hm16 : m ≤ 16 := by omega
        clear hm hln
        go_wp2_with fail
        go_loopw [8, 9, 10] (fun x k9 w10 wr => ∃ (i : Nat), x = .int .i64 i ∧ i ≤ m ∧ PP All wr b (remB a1 (rs0.take 16) i) ∧ Below w.heap.size w wr) (fun x _ _ _ => m - (intOf x).toNat)
        case atStart => exact ⟨0, rfl, Nat.zero_le _, by have := HO.out.2.1; unfold remB; split; (rw [Nat.sub_zero, List.take_of_length_le (Nat.le_refl _)]; exact this); simpa using this, HO.out.2.2⟩
        case round =>
          obtain ⟨i, rfl, hi, hp, hbl⟩ := hrel
          have hl16 : (rs0.take 16).length = m := by rw [List.length_take, HM.out.2, HM.out.1]; omega
          by_cases hlt : i < m
          · have hlt' : (i : Int) < m := by omega
            have hwi : IntKind.i64.wrap ((i : Int) + 1) = (i : Int) + 1 := by rw [IntKind.wrap_i64]; omega
            cases a1 with
            | false =>
              obtain ⟨g, off, p, A, k, C, rfl, ho, hf, hd, hc⟩ := H.out.at (show i < j by omega)
              have hrp : (remB false (rs0.take 16) i)[0]? = some p := by
                simp only [remB, Bool.false_eq_true, if_false, List.getElem?_drop, Nat.add_zero]
                rw [List.getElem?_take_of_lt (by omega)]; exact ho
              have hre : (remB false (rs0.take 16) i).eraseIdx 0 = remB false (rs0.take 16) (i + 1) := by
                simp only [remB, Bool.false_eq_true, if_false]
                rw [List.eraseIdx_zero, List.tail_drop]
              have hgb : g < w.heap.size := old_block (hc 0 _ rfl)
              have HT := take_same 0 p A k C HB.out hp hbl hrp (g := g) (o := off + i * 6) hc hgb hd
              rw [hre] at HT
              have e0 : ((0 : Nat) : Int) = 0 := rfl
              rw [e0] at HT
              have HT' := hid_of HT
              clear HT hf hd hc hp hbl hrp hre ho e0
              have hij : (i : Int) < j := by omega
              go_wp2_with (first
                | (go_at_call 15; refine HT'.out.mono ?_; rintro e w2 ⟨A2, C2, rfl, HS⟩; have HS' := hid_of HS; clear HS))
              obtain ⟨q2, hq2⟩ : ∃ q2, q2 = w2.heap.size := ⟨_, rfl⟩
              rw [← hq2]
              generalize hV2 : World.alloc w2 _ = V2
              have HS2 := hid_of (HS'.out V2 q2 hV2.symm hq2)
              clear HS' hV2 hq2
              obtain ⟨x0, x1, x2, x3, x4, x5, y0, y1, y2, y3, y4, y5, hcall⟩ := HS2.out V2.drew (Below.refl _ _).drew
              have HC := hid_of hcall
              clear hcall
              go_region_held3 (fun Y => Y.cell? ⟨q2, 0, none⟩ = some (.int .u16 p.1.fl) ∧ Y.cell? ⟨q2, 1, none⟩ = some (.int .u16 p.1.kd) ∧ Y.cell? ⟨q2, 2, none⟩ = some (.int .u64 p.1.ck) ∧ Y.cell? ⟨q2, 3, none⟩ = some (.int .u64 p.1.ofs) ∧ Y.cell? ⟨q2, 4, none⟩ = some (.int .u32 p.1.ln) ∧ Y.cell? ⟨q2, 5, none⟩ = some (.slice A2 p.2.length C2) ∧ Y.cell? ⟨g, off + i * 6, none⟩ = some (.int .u16 p.1.fl) ∧ Y.cell? ⟨g, off + i * 6 + 1, none⟩ = some (.int .u16 p.1.kd) ∧ Y.cell? ⟨g, off + i * 6 + 2, none⟩ = some (.int .u64 p.1.ck) ∧ Y.cell? ⟨g, off + i * 6 + 3, none⟩ = some (.int .u64 p.1.ofs) ∧ Y.cell? ⟨g, off + i * 6 + 4, none⟩ = some (.int .u32 p.1.ln) ∧ Y.cell? ⟨g, off + i * 6 + 5, none⟩ = some (.slice A k C)) (refine ⟨?_, ?_, ?_, ?_, ?_, ?_, ?_, ?_, ?_, ?_, ?_, ?_⟩ <;> with_reducible assumption)
                (first | (go_simp; go_at_call 17; refine HC.out.mono ?_; rintro e w3 ⟨rfl, hp3, hb3, hb4⟩; obtain ⟨v0, v1, v2, v3, v4, v5, u0, u1, u2, u3, u4', u5, _⟩ := HS2.out w3 hb4; have H3 := hid_of (And.intro hp3 hb3); clear hp3 hb3 hb4))
              clear x0 x1 x2 x3 x4 x5 y0 y1 y2 y3 y4 y5 v0 v1 v2 v3 v4 v5 u0 u1 u2 u3 u4' u5
              go_wp2
              go_roundw
              case rel => exact ⟨i + 1, by simp, by omega, H3.out⟩
              case measure => simp [intOf]; omega
            | true =>
              obtain ⟨K, hK⟩ : ∃ K, m = i + K + 1 := ⟨m - i - 1, by omega⟩
              obtain ⟨g, off, p, A, k, C, rfl, ho, hf, hd, hc⟩ := H.out.at (show K < j by omega)
              have hrl : (remB true (rs0.take 16) i).length = K + 1 := by rw [remB_length _ _ _ (by omega)]; omega
              have hrp : (remB true (rs0.take 16) i)[K]? = some p := by
                simp only [remB, if_true]
                rw [List.getElem?_take_of_lt (by omega), List.getElem?_take_of_lt (by omega)]; exact ho
              have hre : (remB true (rs0.take 16) i).eraseIdx K = remB true (rs0.take 16) (i + 1) := by
                simp only [remB, if_true]
                rw [show (rs0.take 16).length - i = K + 1 by omega, show (rs0.take 16).length - (i + 1) = K by omega]
                exact take_erase _ K
              have hgb : g < w.heap.size := old_block (hc 0 _ rfl)
              have HT := take_same K p A k C HB.out hp hbl hrp (g := g) (o := off + K * 6) hc hgb hd
              rw [hre] at HT
              have HT' := hid_of HT
              have HL := hid_of <| pLen_b ((K : Int) + 1) (by rw [hrl]; omega) hp
              have hw2 : IntKind.i64.wrap (K : Int) = (K : Int) := by rw [IntKind.wrap_i64]; omega
              have hw3 : IntKind.i64.wrap ((m : Int) - 1) = (m : Int) - 1 := by rw [IntKind.wrap_i64]; omega
              have hw4 : IntKind.i64.wrap ((m : Int) - 1 - (i : Int)) = (K : Int) := by rw [IntKind.wrap_i64]; omega
              have hw5 : IntKind.i64.wrap ((K : Int) + 1 - 1) = (K : Int) := by rw [IntKind.wrap_i64]; omega
              have hKj : (K : Int) < j := by omega
              clear HT hf hd hc hp hbl hrp hre ho hrl
              have HK : Hid (m = i + K + 1) := hK
              clear hK
              go_wp2_with (first
                | (go_at_call 18; refine HL.out.mono ?_; rintro e V5 ⟨rfl, rfl⟩)
                | (go_at_call 15; refine HT'.out.mono ?_; rintro e w2 ⟨A2, C2, rfl, HS⟩; have HS' := hid_of HS; clear HS))
              obtain ⟨q2, hq2⟩ : ∃ q2, q2 = w2.heap.size := ⟨_, rfl⟩
              rw [← hq2]
              generalize hV2 : World.alloc w2 _ = V2
              have HS2 := hid_of (HS'.out V2 q2 hV2.symm hq2)
              clear HS' hV2 hq2
              obtain ⟨x0, x1, x2, x3, x4, x5, y0, y1, y2, y3, y4, y5, hcall⟩ := HS2.out V2.drew (Below.refl _ _).drew
              have HC := hid_of hcall
              clear hcall
              go_region_held3 (fun Y => Y.cell? ⟨q2, 0, none⟩ = some (.int .u16 p.1.fl) ∧ Y.cell? ⟨q2, 1, none⟩ = some (.int .u16 p.1.kd) ∧ Y.cell? ⟨q2, 2, none⟩ = some (.int .u64 p.1.ck) ∧ Y.cell? ⟨q2, 3, none⟩ = some (.int .u64 p.1.ofs) ∧ Y.cell? ⟨q2, 4, none⟩ = some (.int .u32 p.1.ln) ∧ Y.cell? ⟨q2, 5, none⟩ = some (.slice A2 p.2.length C2) ∧ Y.cell? ⟨g, off + K * 6, none⟩ = some (.int .u16 p.1.fl) ∧ Y.cell? ⟨g, off + K * 6 + 1, none⟩ = some (.int .u16 p.1.kd) ∧ Y.cell? ⟨g, off + K * 6 + 2, none⟩ = some (.int .u64 p.1.ck) ∧ Y.cell? ⟨g, off + K * 6 + 3, none⟩ = some (.int .u64 p.1.ofs) ∧ Y.cell? ⟨g, off + K * 6 + 4, none⟩ = some (.int .u32 p.1.ln) ∧ Y.cell? ⟨g, off + K * 6 + 5, none⟩ = some (.slice A k C)) (refine ⟨?_, ?_, ?_, ?_, ?_, ?_, ?_, ?_, ?_, ?_, ?_, ?_⟩ <;> with_reducible assumption)
                (first | (go_simp; go_at_call 17; refine HC.out.mono ?_; rintro e w3 ⟨rfl, hp3, hb3, hb4⟩; obtain ⟨v0, v1, v2, v3, v4, v5, u0, u1, u2, u3, u4', u5, _⟩ := HS2.out w3 hb4; have H3 := hid_of (And.intro hp3 hb3); clear hp3 hb3 hb4))
              clear x0 x1 x2 x3 x4 x5 y0 y1 y2 y3 y4 y5 v0 v1 v2 v3 v4 v5 u0 u1 u2 u3 u4' u5
              go_wp2
              go_roundw
              case rel => exact ⟨i + 1, by simp, by omega, H3.out⟩
              case measure => simp [intOf]; omega
          · obtain rfl : i = m := by omega
            have hr0 : remB a1 (rs0.take 16) i = [] := by
              apply List.eq_nil_of_length_eq_zero
              rw [remB_length _ _ _ (by omega)]; omega
            rw [hr0] at hp
            have HT : Hid (Calls Try.prog 15 #[.pointer (some ⟨b, 0, none⟩), .int .i64 0] wr fun e w' => e = .returned (.tuple #[.agg #[.int .u16 0, .int .u16 0, .int .u64 0, .int .u64 0, .int .u32 0, .slice none 0 0], .bool false]) ∧ Hid (PP All (w'.alloc (.cells #[.int .u16 0, .int .u16 0, .int .u64 0, .int .u64 0, .int .u32 0, .slice none 0 0] 34)) b [] ∧ Below w.heap.size w (w'.alloc (.cells #[.int .u16 0, .int .u16 0, .int .u64 0, .int .u64 0, .int .u32 0, .slice none 0 0] 34)))) := by
              refine (pTake_b0 0 HB.out hp hbl (by simp)).mono ?_
              rintro e w' ⟨rfl, h1, h2⟩
              exact ⟨rfl, h1.below ((Below.refl _ _).alloc (Nat.le_refl _) _), h2.alloc h2.size _⟩
            clear hp hbl hr0
            go_wp2_with (first
              | (go_at_call 15; refine HT.out.mono ?_; rintro e w2 ⟨rfl, H2⟩)
              | (go_at_call 18; refine (pLen_b 0 rfl H2.out.1).mono ?_; rintro e V5 ⟨rfl, rfl⟩)
              | (go_at_call 20; refine (pFull_b false rfl H2.out.1).mono ?_; rintro e V6 ⟨rfl, rfl⟩))
            go_ret
            exact ⟨rfl, H2.out.2⟩

set_option maxRecDepth 100000 in
theorem lifted (os : Os) (started : os.Started) (H : Type) (enc : TypeId × Value → H) :
    ReturnsInHanded {} Try.checked os 6 .any (Rows.pipeFillsSpec.pre6 enc Try.prog Try.f6 Rows.pipeFillsRow.domain false) (Rows.pipeFillsSpec.post enc Try.prog Try.f6 false true false false) := by
  refine returnsInHanded_of_change (C := Try.checked) own started (by kernel_rfl) Try.func6
    (ChangeSpec.witness6 (enc := enc) (C := Try.checked) false ⟨#[], #[.slice none 0 0, .bool false], []⟩ 8 (by kernel_rfl) (by kernel_rfl) (by kernel_rfl) (by kernel_rfl)) ?_
  intro W base args ds gs before hval0 hW hcnd _
  have hval : ∀ (j : Nat) t v, Try.f6.params[j]? = some t → args[j]? = some v → Value.okWide Try.prog W .any base t v := hval0
  have hW' := hW
  obtain ⟨p, q, hA0, hV, rfl, hfz, hnd⟩ := hW
  have hA : DataW.TrodAll enc Try.prog W 0 (fun _ => true) true Try.f6.params.toList args.toList ds p := hA0
  rw [Try.params6] at hA hval
  obtain ⟨v0, vs0, d0, ds0, p0, q0, hargs, rfl, rfl, h0, r0⟩ := trodAll_cons hA
  obtain ⟨v1, vs1, d1, ds1, p1, q1, rfl, rfl, rfl, h1, r1⟩ := trodAll_cons r0
  obtain ⟨rfl, rfl, rfl⟩ := trodAll_nil r1
  obtain rfl : args = #[v0, v1] := by cases args; simp_all
  obtain ⟨rfl, rfl⟩ := trodVars_none hV
  obtain ⟨a0, n0, c0, rfl⟩ := okWide_slice Try.underlying43 (hval 0 43 v0 rfl rfl)
  have k0 := h0
  have lt0 : ∀ x ∈ p0, x.block < W.heap.size := by obtain ⟨m, hm⟩ := k0; exact DataW.trod_lt m _ _ _ hm
  obtain ⟨rs0, w0⟩ := open_requests h0
  obtain ⟨a1, rfl, rfl, rfl⟩ := open_bool Try.underlying4 (hval 1 4 v1 rfl rfl) h1
  clear hA0 hval0
  refine (walk a0 n0 c0 rs0 a1 W w0).mono fun e W' ⟨he, bel⟩ => ?_
  subst he
  exact ⟨_, rfl, _, _, _, [], _, [], hW', trodAll_mk1 (shut_bool Try.underlying4 _), (trodAll_cons_mk (Below.trod laidOut (by kernel_rfl) (of_decide_eq_true (by kernel_rfl)) k0 bel lt0) (trodAll_cons_mk (shut_bool Try.underlying4 _) trodAll_mk0)), rfl, bel.frame _, fun h => by cases h⟩

theorem over : Rows.pipeFillsRow.holds Try.pinned (OpenSpec.ofChange Rows.pipeFillsSpec) :=
  OpenClaim.holds_of_wide 6 Try.f6 rfl rfl rfl rfl rfl rfl rfl ⟨rfl, rfl, rfl, rfl, rfl⟩ rfl rfl rfl rfl rfl (by kernel_rfl) Try.func6 (by kernel_rfl)
    (of_decide_eq_true (by kernel_rfl)) (by unfold Func.isWrapper; first | (rw [if_pos (by decide +kernel)]; kernel_rfl) | (rw [if_neg (by decide +kernel)]; exact ⟨rfl, rfl⟩))
    (fun os started H enc _ => lifted os started H enc)

end Go.Proofs.Ythmhphjblglcoaa.pipeFills
namespace Go.Proofs.Ythmhphjblglcoaa
/-- The statement. -/
theorem pipeFills_holds : Rows.PipeFillsSaid := pipeFills.over
#print axioms pipeFills_holds
end Go.Proofs.Ythmhphjblglcoaa
