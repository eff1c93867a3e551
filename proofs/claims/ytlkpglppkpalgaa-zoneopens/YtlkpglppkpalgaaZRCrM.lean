/- What the document's Crash leaves of a zone, block by block. -/
import Derived.Test.YtlkpglppkpalgaaZRApp
import Derived.Test.YtlkpglppkpalgaaZBlock
namespace Go.Proofs.Ytlkpglppkpalgaa
open Go.RowKit Go.Shelf
set_option linter.unusedVariables false
set_option maxRecDepth 4000

def stayTo (bs : List (List Int)) (dn : Nat) (kk : Int × Int) (k : Nat) : List (List Int) :=
  bs.take (min k (dn + kk.1.toNat)) ++ (if dn + kk.1.toNat < k ∧ 0 < kk.2 then (match bs[dn + kk.1.toNat]? with | some D => [tornL D (min kk.2.toNat D.length)] | none => []) else [])
theorem stayTo_zero (bs : List (List Int)) (dn : Nat) (kk : Int × Int) : stayTo bs dn kk 0 = [] := by simp [stayTo]
theorem stayTo_low {bs : List (List Int)} {dn : Nat} {kk : Int × Int} {k : Nat} {D : List Int} (h : k < dn + kk.1.toNat) (hD : bs[k]? = some D) : stayTo bs dn kk (k + 1) = stayTo bs dn kk k ++ [D] := by
  unfold stayTo
  rw [if_neg (by omega), if_neg (by omega), Nat.min_eq_left (by omega), Nat.min_eq_left (by omega), take_snoc hD]
  simp
theorem stayTo_mid {bs : List (List Int)} {dn : Nat} {kk : Int × Int} {k : Nat} {D : List Int} (h : k = dn + kk.1.toNat) (hD : bs[k]? = some D) (ht : 0 < kk.2) : stayTo bs dn kk (k + 1) = stayTo bs dn kk k ++ [tornL D (min kk.2.toNat D.length)] := by
  unfold stayTo
  rw [if_pos ⟨by omega, ht⟩, if_neg (by omega), Nat.min_eq_right (by omega), Nat.min_eq_right (by omega), ← h, hD]
  simp
theorem stayTo_skip {bs : List (List Int)} {dn : Nat} {kk : Int × Int} {k : Nat} (h : dn + kk.1.toNat ≤ k) (h2 : ¬ (k = dn + kk.1.toNat ∧ 0 < kk.2)) : stayTo bs dn kk (k + 1) = stayTo bs dn kk k := by
  unfold stayTo
  rw [Nat.min_eq_right (by omega), Nat.min_eq_right h]
  by_cases ht : 0 < kk.2
  · rw [if_pos ⟨by omega, ht⟩, if_pos ⟨by omega, ht⟩]
  · rw [if_neg (by omega), if_neg (by omega)]
theorem stayTo_all {bs : List (List Int)} {dn : Nat} {kk : Int × Int} (hd : dn ≤ bs.length) : stayTo bs dn kk bs.length = crashB bs dn kk.1 kk.2 := by
  unfold stayTo crashB keptB
  have e : (bs.drop dn)[kk.1.toNat]? = bs[dn + kk.1.toNat]? := by rw [List.getElem?_drop]
  rw [e]
  have e2 : bs.take (min bs.length (dn + kk.1.toNat)) = bs.take dn ++ (bs.drop dn).take kk.1.toNat := by
    rw [← List.take_add]
    rcases Nat.le_total bs.length (dn + kk.1.toNat) with h | h
    · rw [Nat.min_eq_left h, List.take_of_length_le (Nat.le_refl _), List.take_of_length_le h]
    · rw [Nat.min_eq_right h]
  rw [e2, List.append_assoc]
  congr 2
  rcases Nat.lt_or_ge (dn + kk.1.toNat) bs.length with h | h
  · by_cases ht : 0 < kk.2
    · rw [if_pos ⟨h, ht⟩, List.getElem?_eq_getElem h]; simp [ht]
    · rw [if_neg (by omega), List.getElem?_eq_getElem h]; simp [ht]
  · rw [if_neg (by omega), List.getElem?_eq_none h]
theorem stayTo_len (bs : List (List Int)) (dn : Nat) (kk : Int × Int) (k : Nat) : (stayTo bs dn kk k).length ≤ k := by
  unfold stayTo
  rw [List.length_append, List.length_take]
  split
  · split <;> simp <;> omega
  · simp; omega
theorem blockTo_torn {D : List Int} {j : Nat} : blockTo D.length D j = tornL D j := rfl

structure RcSt (w0 : World) (O : Nat → Prop) (q : Nat) (kk : Int × Int) (bs : List (List Int)) (dn k : Nat) (o : Value) (W : World) : Prop where
  row : RowAt O W o (stayTo bs dn kk k)
  fr : ∀ r, o.ownBlock = some r → q ≤ r
  bel : Below q w0 W
  box : Blk W q [.int .i64 kk.1, .int .i64 kk.2] 67
theorem RcSt.under {w0 : World} {O : Nat → Prop} {q : Nat} {kk : Int × Int} {bs : List (List Int)} {dn k : Nat} {o : Value} {W W' : World} (h : RcSt w0 O q kk bs dn k o W) (hb : Below W.heap.size W W') : RcSt w0 O q kk bs dn k o W' :=
  ⟨h.row.out (below_out Non hb) (fun _ _ e => e) (fun _ _ _ _ e => e), h.fr, h.bel.trans (hb.mono (by have := h.box.lt; omega)), (below_out Non hb).blk h.box id⟩
theorem RcSt.app {w0 : World} {O : Nat → Prop} {q : Nat} {kk : Int × Int} {bs : List (List Int)} {dn k : Nat} {o h : Value} {W : World} {D : List Int} (st : RcSt w0 O q kk bs dn k o W) (hO : ∀ x, q ≤ x → O x) (hb : BkAt O W h D) (ho : h.oneCell' = true) (hk : k + 1 ≤ 100000) (hs : stayTo bs dn kk (k + 1) = stayTo bs dn kk k ++ [D]) :
    ∃ a' c' w5, (Builtin.append_ #[47, 47] 47 #[o, .slice (some ⟨W.heap.size, 0, none⟩) 1 1]).run Try.prog (W.alloc (.cells #[h] 33)) = .ok (.slice a' ((stayTo bs dn kk k).length + 1) c') w5 ∧ RcSt w0 O q kk bs dn (k + 1) (.slice a' ((stayTo bs dn kk k).length + 1) c') w5 := by
  have hlt := st.box.lt
  have hl := stayTo_len bs dn kk k
  obtain ⟨a', c', w5, r5, row5, g5, f5⟩ := app_row st.row hb ho (by omega) (fun x hx => hO x (by omega))
  obtain ⟨uv, u1, u2, _⟩ := id st.row
  refine ⟨a', c', w5, r5, ⟨by rw [hs]; exact row5, ?_, ?_, (st.box.alloc _).grown (by decide) (u1.alloc _) g5⟩⟩
  · intro r e
    rcases f5 with f5 | f5
    · rw [f5] at e; exact st.fr r e
    · have := f5 r e; omega
  · exact ((st.bel.alloc (by omega) _).grown g5 (by simp; omega) (fun j e => st.fr j e))
theorem RcSt.skip {w0 : World} {O : Nat → Prop} {q : Nat} {kk : Int × Int} {bs : List (List Int)} {dn k : Nat} {o : Value} {W : World} (st : RcSt w0 O q kk bs dn k o W) (hs : stayTo bs dn kk (k + 1) = stayTo bs dn kk k) : RcSt w0 O q kk bs dn (k + 1) o W := ⟨by rw [hs]; exact st.row, st.fr, st.bel, st.box⟩
/-- A block's header, with what it leads to. -/
theorem DvV.blockAt {O : Nat → Prop} {W : World} {p : Nat} {s : Sh} {zs : List Zn} {T : TypeId} {g c : Nat} {vs : List Value} {i j : Nat} {z : Zn} {D : List Int} {ua : Option Addr} {uc : Nat} (hv : DvV T O W p s zs g c vs) (hz : zs[i]? = some z) (hu : vs[i]? = some (.slice ua z.1.length uc)) (hD : z.1[j]? = some D) :
    ∃ b A L C, ua = some ⟨b, 0, none⟩ ∧ W.cell? ⟨b, j, none⟩ = some (.slice A L C) ∧ BkAt O W (.slice A L C) D := by
  obtain ⟨hs, h1, h2, h3, h4⟩ := hv.rows i _ z hu hz
  have hj := (List.getElem?_eq_some_iff.1 hD).1
  obtain ⟨v, hvv⟩ : ∃ v, hs[j]? = some v := ⟨hs[j]'(by rw [h3.1]; exact hj), by simp [h3.1, hj]⟩
  have hb := h3.2 j v D hvv hD
  obtain ⟨A, C, rfl⟩ := own_slice hb.1
  rcases h1.2 with ⟨hv', hz'⟩ | ⟨b, cap, cur, hv', _⟩
  · omega
  · cases hv'
    have hcl := h1.cells (g := b) rfl j _ hvv
    rw [Addr.add_mid, Nat.zero_add] at hcl
    exact ⟨b, A, D.length, C, rfl, hcl, hb⟩
end Go.Proofs.Ytlkpglppkpalgaa
