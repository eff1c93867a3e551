/- P55 -/
import Derived.Test.YtcdnjeiamihhbabGreatP54
set_option linter.unusedVariables false
set_option maxRecDepth 4000
namespace Go.Proofs.YtcdnjeiamihhbabGreat
open Go.RowKit Go.Sort Go.Lib Go.Shelf
section
theorem ScR.at2 {zs : List Zn} {q : Nat} {V w : World} {A B : Option Addr} {n C cB z : Nat} {L : List Nat} (h : ScR q V w A n C B n cB (L.map (elB zs (z : Nat))) (L.map (fun i => ((i : Nat) : Int)))) {i : Nat} (hi : i < n) : ∃ b a m c g g2, L[i]? = some b ∧ A = some ⟨g, 0, none⟩ ∧ B = some ⟨g2, 0, none⟩ ∧ w.cell? ⟨g, i * 2, none⟩ = some (.int .u64 (decS (elB zs (z : Nat) b))) ∧ w.cell? ⟨g, i * 2 + 1, none⟩ = some (.slice a m c) ∧ w.cell? ⟨g2, i, none⟩ = some (.int .i64 (b : Nat)) ∧ ItsIn w a m (decX (elB zs (z : Nat) b)) := by
 have h2 : L.length = n := by have := h.ln; simpa using this
 obtain ⟨vs, Y, r1, r2, _⟩ := h.rows
 obtain ⟨b, hb⟩ : ∃ b, L[i]? = some b := ⟨L[i]'(by omega), by simp⟩
 have hE : (L.map (elB zs (z : Nat)))[i]? = some (elB zs (z : Nat) b) := by rw [List.getElem?_map, hb]; rfl
 obtain ⟨v, hv⟩ : ∃ v, vs[i]? = some v := ⟨vs[i]'(by rw [r2.1, List.length_map]; omega), by simp⟩
 obtain ⟨a, m, c, rfl, k1, k2⟩ := r2.2 i _ v hE hv
 obtain ⟨g, hg, hgc⟩ := own_each r1 (by omega)
 obtain ⟨g2, hg2, hgc2⟩ := own_each h.ints (by omega)
 have hr := rcC_at _ vs i _ _ hE hv
 exact ⟨b, a, m, c, g, g2, hb, hg, hg2, hgc _ _ hr.1, hgc _ _ hr.2, hgc2 i _ (by simp [kInts, hb]), k1⟩
theorem posB_len (b : Int) : ∀ (L : List (Int × List Pt)) (n : Nat), (posB b n L).length = L.length
 | [], _ => rfl
 | _ :: L, n => by unfold posB; rw [List.length_cons, List.length_cons, posB_len b L]
theorem zonB_cons (b : Int) (y : Int × List Pt) (L : List (Int × List Pt)) : zonB b (y :: L) = grpB b y.1 y.2 ++ zonB b L := by simp [zonB]
theorem zonB_append (b : Int) (L M : List (Int × List Pt)) : zonB b (L ++ M) = zonB b L ++ zonB b M := by simp [zonB]
theorem posB_at (b : Int) : ∀ (L : List (Int × List Pt)) (n i : Nat), i < L.length → (posB b n L)[i]? = some (n + (zonB b (L.take i)).length)
 | [], _, _, h => by simp at h
 | y :: L, n, 0, _ => rfl
 | y :: L, n, i + 1, h => by
  rw [List.length_cons] at h
  show (posB b (n + (grpB b y.1 y.2).length) L)[i]? = _
  rw [posB_at b L _ i (by omega), List.take_succ_cons, zonB_cons, List.length_append]
  congr 1
  omega
theorem zonB_ge (b : Int) : ∀ (L : List (Int × List Pt)), L.length ≤ (zonB b L).length
 | [] => Nat.le_refl _
 | y :: L => by
  have := zonB_ge b L
  rw [zonB_cons, List.length_append, List.length_cons]
  unfold grpB
  rw [List.length_cons]
  omega
section
variable {st : St} {G : Nat → List (Int × List Pt)} {z : Nat}
theorem Wh.scan (h : Wh st G) (hz : 2 ≤ z) (hl : z < st.zs.length) : scanL st.zs (z : Nat) = posB st.s.b 0 (G z) := by
 obtain ⟨zn, hzn⟩ : ∃ zn, st.zs[z]? = some zn := ⟨st.zs[z], by simp [hl]⟩
 have hb := h.zone z hz hl
 rw [atZ_in hzn] at hb
 refine (scan_zon (s := st.s) hzn (G z) [] _ hb (fun y hy => h.ok z y hy) ?_).trans rfl
 rw [atZ_in hzn, hb]
 exact zonB_ge _ _
theorem Wh.parts (h : Wh st G) (hz : 2 ≤ z) (hl : z < st.zs.length) {i : Nat} {q : Int} {l : List Pt} (hi : (G z)[i]? = some (q, l)) :
  ∃ zn, st.zs[z]? = some zn ∧ zn.1 = zonB st.s.b ((G z).take i ++ (q, l) :: (G z).drop (i + 1)) ∧ RecOk st.s q l := by
 obtain ⟨zn, hzn⟩ : ∃ zn, st.zs[z]? = some zn := ⟨st.zs[z], by simp [hl]⟩
 have hb := h.zone z hz hl
 rw [atZ_in hzn] at hb
 obtain ⟨hi', e⟩ := List.getElem?_eq_some_iff.1 hi
 refine ⟨zn, hzn, ?_, h.ok z (q, l) (List.mem_of_getElem? hi)⟩
 rw [hb, ← e, ← List.drop_eq_getElem_cons hi', List.take_append_drop]
theorem Wh.el (h : Wh st G) (hz : 2 ≤ z) (hl : z < st.zs.length) {i : Nat} {q : Int} {l : List Pt} (hi : (G z)[i]? = some (q, l)) :
  decS (elB st.zs (z : Nat) (zonB st.s.b ((G z).take i)).length) = q ∧ decX (elB st.zs (z : Nat) (zonB st.s.b ((G z).take i)).length) = l.map itP ∧ (zonB st.s.b ((G z).take (i + 1))).length = (zonB st.s.b ((G z).take i)).length + 1 + (l.filter (fun p => !p.x)).length := by
 obtain ⟨zn, hzn, hb, hr⟩ := h.parts hz hl hi
 have h1 := (recEnd_zon hzn hb hr).1
 obtain ⟨_, _, h3, h4⟩ := hr.isR
 unfold elB
 rw [h1]
 refine ⟨h3, h4, ?_⟩
 obtain ⟨hi', e⟩ := List.getElem?_eq_some_iff.1 hi
 rw [take_snoc hi, zonB_snoc, List.length_append]
 unfold grpB
 rw [List.length_cons, List.length_map]
 omega
theorem Wh.dat (h : Wh st G) (hz : 2 ≤ z) (hl : z < st.zs.length) {i : Nat} {q : Int} {l : List Pt} (hi : (G z)[i]? = some (q, l)) {k : Nat} {p : Pt} (hk : l[k]? = some p) (hx : p.x = false) :
  blkZ st.zs ((z : Nat), (((zonB st.s.b ((G z).take i)).length + 1 + ((l.take k).filter (fun p => !p.x)).length : Nat) : Int)) = some p.d := by
 obtain ⟨zn, hzn, hb, hr⟩ := h.parts hz hl hi
 rw [blkZ_nat, hzn]
 show zn.1[_]? = _
 rw [hb]
 have e1 : zonB st.s.b ((G z).take i ++ (q, l) :: (G z).drop (i + 1)) = zonB st.s.b ((G z).take i) ++ (encB q (l.map itP) st.s.b :: ((l.filter (fun p => !p.x)).map (·.d) ++ zonB st.s.b ((G z).drop (i + 1)))) := by simp [zonB, grpB]
 obtain ⟨hk', ek⟩ := List.getElem?_eq_some_iff.1 hk
 have e2 : l.filter (fun p => !p.x) = (l.take k).filter (fun p => !p.x) ++ p :: (l.drop (k + 1)).filter (fun p => !p.x) := by
  have : l = l.take k ++ p :: l.drop (k + 1) := by rw [← ek, ← List.drop_eq_getElem_cons hk', List.take_append_drop]
  conv => lhs; rw [this]
  rw [List.filter_append, List.filter_cons, if_pos (by simp [hx])]
 rw [e1, List.getElem?_append_right (by omega), e2]
 rw [show (zonB st.s.b ((G z).take i)).length + 1 + ((l.take k).filter (fun p => !p.x)).length - (zonB st.s.b ((G z).take i)).length = ((l.take k).filter (fun p => !p.x)).length + 1 by omega, List.getElem?_cons_succ, List.getElem?_append_left (by simp), List.map_append, List.getElem?_append_right (by simp)]
 simp
end
theorem wh_next (l : List Pt) {k : Nat} {p : Pt} (hk : l[k]? = some p) : ((l.take (k + 1)).filter (fun p => !p.x)).length = ((l.take k).filter (fun p => !p.x)).length + if p.x then 0 else 1 := by
 rw [take_snoc hk, List.filter_append, List.length_append]
 cases hx : p.x <;> simp [hx]
end
end Go.Proofs.YtcdnjeiamihhbabGreat
