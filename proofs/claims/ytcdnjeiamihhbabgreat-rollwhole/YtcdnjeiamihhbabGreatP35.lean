/- P35 -/
import Derived.Test.YtcdnjeiamihhbabGreatP32
set_option linter.unusedVariables false
set_option maxRecDepth 4000
namespace Go.Proofs.YtcdnjeiamihhbabGreat
open Go.RowKit
/-- A block that is put, or dropped. -/
structure Pt where
 t : Int
 b : Int
 x : Bool
 d : List Int
def Pt.n (p : Pt) : Pr := (p.t, p.b)
def Pt.Fits (p : Pt) : Prop := Fits32 p.t ∧ FitsU p.b ∧ ∀ z ∈ p.d, Fits8 z
/-- What a record says of one. -/
def itP (p : Pt) : It := if p.x then ⟨p.t, p.b, 2, 0, 0⟩ else ⟨p.t, p.b, 1, crI 0 p.d, (endsN p.d : Nat)⟩
structure St where
 s : Sh
 zs : List Zn
 L : List Int
 S : List Pl
 q : Int
 la : List Int
 o : Int
def roomZ (s : Sh) (zs : List Zn) (a : Int) : Int := s.zb - ((atZ zs a).1.length : Int)
def curA (L : List Int) : Int := match listZ L 2 with | z :: _ => z | [] => takeI L
def curB (L : List Int) : Bool := match listZ L 2 with | _ :: _ => true | [] => takeB L
def curL (L : List Int) : List Int := match listZ L 2 with | _ :: _ => L | [] => takeZ L
def muZ (L : List Int) : Nat := cntZ L 1 + cntZ L 2
def openF (s : Sh) (zs : List Zn) (k : Int) : Nat → List Int → Int × Bool × List Int
 | 0, L => (curA L, curB L, curL L)
 | f + 1, L => if curB L = true ∧ roomZ s zs (curA L) < k then openF s zs k f (turnZ (curL L) (curA L) 2 3) else (curA L, curB L, curL L)
/-- The open zone, which has room. -/
def openZ (s : Sh) (zs : List Zn) (k : Int) (L : List Int) : Int × Bool × List Int := openF s zs k (muZ L) L
def frN : List Pt → Nat → Int → Nat
 | [], _, _ => 0
 | _ :: _, 0, _ => 0
 | p :: l, k + 1, d => if p.x = true then frN l k d + 1 else if 0 < d then frN l k (d - 1) + 1 else 0
def oneP (s : Sh) (z : Int) (y : List Zn × List Pl) (p : Pt) : List Zn × List Pl :=
 if p.x = true then (y.1, dropS y.2 p.n) else (appZ s y.1 z p.d, putS y.2 (p.n, appA s y.1 z p.d))
def incU (q : Int) : Int := (q + 1) % 18446744073709551616
def recZ (st : St) (z : Int) (l : List Pt) : List Zn := appZ st.s st.zs z (encB (incU st.q) (l.map itP) st.s.b)
def wrY (st : St) (z : Int) (l : List Pt) (k : Nat) : List Zn × List Pl := (l.take k).foldl (oneP st.s z) (recZ st z l, st.S)
def fullL (s : Sh) (zs : List Zn) (L : List Int) (z : Int) : List Int := if roomZ s zs z = 0 then turnZ L z 2 3 else L
/-- One record. -/
def writeM (st : St) (z : Int) (l : List Pt) : St :=
 { st with zs := (wrY st z l l.length).1, S := (wrY st z l l.length).2, L := fullL st.s (wrY st z l l.length).1 st.L z, q := incU st.q, la := st.la.set z.toNat (incU st.q) }
def needP (p : Pt) : Int := if p.x = true then 1 else 2
def frontN (st : St) (a : Int) (l : List Pt) : Nat := frN l (roomI st.s.b).toNat (roomZ st.s st.zs a - 1)
def putF : Nat → St → List Pt → Int × St
 | 0, st, _ => (0, st)
 | _ + 1, st, [] => (0, st)
 | f + 1, st, p :: l =>
  if (openZ st.s st.zs (needP p) st.L).2.1 = true then
   putF f (writeM { st with L := (openZ st.s st.zs (needP p) st.L).2.2 } (openZ st.s st.zs (needP p) st.L).1 ((p :: l).take (frontN st (openZ st.s st.zs (needP p) st.L).1 (p :: l)))) ((p :: l).drop (frontN st (openZ st.s st.zs (needP p) st.L).1 (p :: l)))
  else (160, { st with L := (openZ st.s st.zs (needP p) st.L).2.2 })
def okP (s : Sh) (l : List Pt) : Prop := ∀ p ∈ l, p.x = true ∨ (p.d.length : Int) = s.b
instance (s : Sh) (l : List Pt) : Decidable (okP s l) := by unfold okP; infer_instance
/-- What Put answers, and the store then. -/
def putM (st : St) (l : List Pt) : Int × St := if okP st.s l then putF l.length st l else (1, st)
theorem incU_fits (q : Int) : FitsU (incU q) := by unfold incU FitsU; omega
theorem putFnil (f : Nat) (st : St) : putF f st [] = (0, st) := by cases f <;> rfl
theorem wrY_zero (st : St) (z : Int) (l : List Pt) : wrY st z l 0 = (recZ st z l, st.S) := by simp [wrY]
theorem wrY_next {st : St} {z : Int} {l : List Pt} {k : Nat} {p : Pt} (h : l[k]? = some p) : wrY st z l (k + 1) = oneP st.s z (wrY st z l k) p := by
 unfold wrY
 rw [take_snoc h, List.foldl_append]
 rfl
theorem frN_le : ∀ (l : List Pt) (k : Nat) (d : Int), frN l k d ≤ l.length ∧ frN l k d ≤ k
 | [], k, d => by simp [frN]
 | p :: l, 0, d => by simp [frN]
 | p :: l, k + 1, d => by
  unfold frN
  split
  ·have := frN_le l k d; simp; omega
  ·split
   ·have := frN_le l k (d - 1); simp; omega
   ·simp
/-- The zone that is open, or opened now, is there; it is open then. -/
theorem cur_in {L : List Int} (h : curB L = true) : ∃ i : Nat, curA L = i ∧ i < L.length ∧ (curL L).getD i 0 = 2 ∧ (curL L).length = L.length := by
 unfold curB at h
 unfold curA curL
 cases hl : listZ L 2 with
 | cons z r =>
  have hz : z ∈ listZ L 2 := by rw [hl]; simp
  obtain ⟨i, hi, h2, rfl⟩ := listTo_mem.1 hz
  exact ⟨i, rfl, hi, h2, rfl⟩
 | nil =>
  rw [hl] at h
  simp only [takeB, decide_eq_true_eq] at h
  refine ⟨firstN L 1, by simp [takeI, h], h, ?_, takeZ_length L⟩
  simp only [takeZ, if_pos h]
  rw [getD_set _ _ _ _ h, if_pos rfl]
theorem curL_length (L : List Int) : (curL L).length = L.length := by
 unfold curL; split
 ·rfl
 ·exact takeZ_length L
theorem cur_mu {L : List Int} (h : curB L = true) : muZ (turnZ (curL L) (curA L) 2 3) + 1 = muZ L := by
 obtain ⟨i, hA, hi, h2, hl⟩ := cur_in h
 have hi' : i < (curL L).length := by omega
 have e : turnZ (curL L) (curA L) 2 3 = (curL L).set i 3 := by
  unfold turnZ
  rw [hA, stZ_nat, if_pos h2]
  simp
 have h1 := cnt_turn (L := curL L) (z := i) (c := 2) (b := 3) 1 hi' h2
 have h2' := cnt_turn (L := curL L) (z := i) (c := 2) (b := 3) 2 hi' h2
 rw [e]
 unfold muZ
 simp at h1 h2'
 rw [h1]
 unfold curB at h
 unfold curL at h2' ⊢
 cases hc : listZ L 2 with
 | cons z r => rw [hc] at h2'; simp only at h2' ⊢; omega
 | nil =>
  rw [hc] at h2' h
  simp only at h2' h ⊢
  simp only [takeB, decide_eq_true_eq] at h
  have f1 := first_at h
  have g1 := cnt_turn (L := L) (z := firstN L 1) (c := 1) (b := 2) 1 h f1
  have g2 := cnt_turn (L := L) (z := firstN L 1) (c := 1) (b := 2) 2 h f1
  simp at g1 g2
  simp only [takeZ, if_pos h] at h2' ⊢
  omega
theorem openZ_step (s : Sh) (zs : List Zn) (k : Int) (L : List Int) : openZ s zs k L = if curB L = true ∧ roomZ s zs (curA L) < k then openZ s zs k (turnZ (curL L) (curA L) 2 3) else (curA L, curB L, curL L) := by
 unfold openZ
 cases hm : muZ L with
 | zero =>
  rw [if_neg (fun h => by have := cur_mu h.1; omega)]
  rfl
 | succ f =>
  rw [show openF s zs k (f + 1) L = if curB L = true ∧ roomZ s zs (curA L) < k then openF s zs k f (turnZ (curL L) (curA L) 2 3) else (curA L, curB L, curL L) from rfl]
  by_cases h : curB L = true ∧ roomZ s zs (curA L) < k
  ·have := cur_mu h.1
   rw [if_pos h, if_pos h, show muZ (turnZ (curL L) (curA L) 2 3) = f by omega]
  ·rw [if_neg h, if_neg h]
theorem openZ_more {s : Sh} {zs : List Zn} {k : Int} {L : List Int} (h : curB L = true) (hr : roomZ s zs (curA L) < k) : openZ s zs k (turnZ (curL L) (curA L) 2 3) = openZ s zs k L := by
 rw [openZ_step s zs k L, if_pos ⟨h, hr⟩]
theorem openZ_done {s : Sh} {zs : List Zn} {k : Int} {L : List Int} (h : ¬ (curB L = true ∧ roomZ s zs (curA L) < k)) : openZ s zs k L = (curA L, curB L, curL L) := by
 rw [openZ_step s zs k L, if_neg h]
/-- What the open zone is: it is there, it is open, and has room. -/
theorem openZ_in (s : Sh) (zs : List Zn) (k : Int) : ∀ (m : Nat) (L : List Int), muZ L = m → (openZ s zs k L).2.1 = true → ∃ i : Nat, (openZ s zs k L).1 = i ∧ i < L.length ∧ (openZ s zs k L).2.2.getD i 0 = 2 ∧ k ≤ roomZ s zs i := by
 intro m
 induction m with
 | zero =>
  intro L hm h
  have hn : ¬ (curB L = true ∧ roomZ s zs (curA L) < k) := fun h => by have := cur_mu h.1; omega
  rw [openZ_done hn] at h ⊢
  obtain ⟨i, h1, h2, h3, h4⟩ := cur_in h
  refine ⟨i, h1, h2, h3, ?_⟩
  rcases Int.lt_or_le (roomZ s zs i) k with h' | h'
  ·exact (hn ⟨h, by rw [h1]; exact h'⟩).elim
  ·exact h'
 | succ m ih =>
  intro L hm h
  by_cases hn : curB L = true ∧ roomZ s zs (curA L) < k
  ·have hc := cur_mu hn.1
   rw [← openZ_more hn.1 hn.2] at h ⊢
   obtain ⟨i, h1, h2, h3⟩ := ih _ (by omega) h
   exact ⟨i, h1, by rw [turnZ_length, curL_length] at h2; exact h2, h3⟩
  ·rw [openZ_done hn] at h ⊢
   obtain ⟨i, h1, h2, h3, h4⟩ := cur_in h
   refine ⟨i, h1, h2, h3, ?_⟩
   rcases Int.lt_or_le (roomZ s zs i) k with h' | h'
   ·exact (hn ⟨h, by rw [h1]; exact h'⟩).elim
   ·exact h'
theorem openZ_length (s : Sh) (zs : List Zn) (k : Int) : ∀ (m : Nat) (L : List Int), muZ L = m → (openZ s zs k L).2.2.length = L.length := by
 intro m
 induction m with
 | zero =>
  intro L hm
  rw [openZ_done (fun h => by have := cur_mu h.1; omega)]
  exact curL_length L
 | succ m ih =>
  intro L hm
  by_cases hn : curB L = true ∧ roomZ s zs (curA L) < k
  ·have hc := cur_mu hn.1
   rw [← openZ_more hn.1 hn.2, ih _ (by omega), turnZ_length, curL_length]
  ·rw [openZ_done hn]
   exact curL_length L
/-- The front of what is put goes into the record: one at least. -/
theorem front_pos {st : St} {a : Int} {p : Pt} {l : List Pt} (hr : RightS st.s) (h : needP p ≤ roomZ st.s st.zs a) : 0 < frontN st a (p :: l) := by
 have hb : st.s.b ∈ PowR := hr.2.2.2.2.1
 have hR : 2 ≤ roomI st.s.b := by
  unfold roomI
  rw [if_pos hb]
  have := pow_bounds hb
  omega
 unfold frontN needP at *
 obtain ⟨k, hk⟩ : ∃ k, (roomI st.s.b).toNat = k + 1 := ⟨(roomI st.s.b).toNat - 1, by omega⟩
 rw [hk]
 unfold frN
 by_cases hx : p.x = true
 ·rw [if_pos hx]; omega
 ·rw [if_neg hx] at h ⊢
  rw [if_pos (by omega)]
  omega
section
structure Bs where
 ps : Nat
 pd : Nat
 pg : Nat
 gg : Nat
 pm : Nat
 b1 : Nat
 b2 : Nat
 lb : Nat
def Bs.has (k : Bs) (x : Nat) : Prop := x = k.ps ∨ x = k.pg ∨ x = k.gg ∨ x = k.pm ∨ x = k.b1 ∨ x = k.b2 ∨ x = k.lb
def stL (k : Bs) (q : Int) (n : Nat) (o : Int) : List Value := [.pointer (some ⟨k.pd, 0, none⟩), .pointer (some ⟨k.pg, 0, none⟩), .pointer (some ⟨k.pm, 0, none⟩), .int .u64 q, .slice (some ⟨k.lb, 0, none⟩) n n, .int .i64 o]
structure StV (D : Nat → Prop) (W : World) (k : Bs) (st : St) (c : Nat) : Prop where
 hp : Blk W k.ps (stL k st.q st.la.length st.o) 84
 dv : Dv 105 D W k.pd st.s st.zs
 sg : SegP W k.pg k.gg st.s.r st.L
 mp : LmP W k.pm k.b1 k.b2 st.S c
 hl : Blk W k.lb (kInts .u64 st.la) 36
 wf : Wf st.s st.zs
 fq : FitsU st.q
 len : st.L.length = st.zs.length ∧ st.la.length = st.zs.length
 lt : ∀ x, D x → x < W.heap.size
 nd : ∀ x, k.has x → ¬ D x
 ap : [k.ps, k.pg, k.gg, k.pm, k.b1, k.b2, k.lb].Nodup
def StO (D : Nat → Prop) (k : Bs) : Nat → Prop := fun x => D x ∨ k.has x
/-- A store somewhere in what it had and in new memory. -/
def Sv (D0 : Nat → Prop) (V : World) (k : Bs) (st : St) (c : Nat) (W : World) : Prop := ∃ D, StV D W k st c ∧ (∀ x, D x → D0 x ∨ V.heap.size ≤ x) ∧ Out (StO D0 k) V W
section
variable {D D0 : Nat → Prop} {V W W' : World} {k : Bs} {st st' : St} {c c' : Nat}
theorem StV.kin (h : StV D W k st c) : ∀ x, k.has x → x < W.heap.size := by
 rintro x (rfl | rfl | rfl | rfl | rfl | rfl | rfl)
 ·exact h.hp.lt
 ·exact h.sg.lt.1
 ·exact h.sg.lt.2
 ·exact h.mp.hp.lt
 ·exact h.mp.m1.lt
 ·exact h.mp.m2.lt
 ·exact h.hl.lt
theorem StV.out {O : Nat → Prop} (h : StV D W k st c) (ho : Out O W W') (hO : ∀ x, StO D k x → ¬ O x) : StV D W' k st c := by
 refine ⟨ho.blk h.hp (hO _ (.inr (.inl rfl))), ?_, h.sg.out ho (hO _ (.inr (.inr (.inl rfl)))) (hO _ (.inr (.inr (.inr (.inl rfl))))), h.mp.out ho ?_, ho.blk h.hl (hO _ (.inr (.inr (.inr (.inr (.inr (.inr (.inr rfl)))))))), h.wf, h.fq, h.len, fun x hx => Nat.lt_of_lt_of_le (h.lt x hx) ho.size, h.nd, h.ap⟩
 ·obtain ⟨g, cc, vs, hv⟩ := h.dv
  exact ⟨g, cc, vs, hv.out ho (fun x hx => hO x (.inl hx))⟩
 ·rintro x (rfl | rfl | rfl)
  ·exact hO _ (.inr (.inr (.inr (.inr (.inl rfl)))))
  ·exact hO _ (.inr (.inr (.inr (.inr (.inr (.inl rfl))))))
  ·exact hO _ (.inr (.inr (.inr (.inr (.inr (.inr (.inl rfl)))))))
theorem StV.under (h : StV D W k st c) (hb : Below W.heap.size W W') : StV D W' k st c := h.out (below_out Non hb) (fun _ _ e => e)
theorem Sv.start (h : StV D W k st c) : Sv D W k st c W := ⟨D, h, fun _ h => .inl h, Out.refl _ _⟩
theorem Sv.under (h : Sv D0 V k st c W) (hb : Below W.heap.size W W') : Sv D0 V k st c W' := by
 obtain ⟨D, h1, h2, h3⟩ := h
 exact ⟨D, h1.under hb, h2, h3.under hb⟩
theorem Sv.next (hD : ∀ x, D x → D0 x ∨ V.heap.size ≤ x) (ho : Out (StO D0 k) V W) (h : Sv D W k st' c' W') : Sv D0 V k st' c' W' := by
 obtain ⟨D', h1, h2, h3⟩ := h
 refine ⟨D', h1, fun x hx => ?_, ho.trans h3 (fun j hj => ?_)⟩
 ·rcases h2 x hx with h | h
  ·exact hD x h
  ·have := ho.size; exact .inr (by omega)
 ·rcases hj with hj | hj
  ·rcases hD j hj with h | h
   ·exact .inl (.inl h)
   ·exact .inr h
  ·exact .inl (.inr hj)
/-- What comes behind what was known in an earlier world. -/
theorem Sv.from {W1 : World} (hb : Below V.heap.size V W1) (h : Sv D0 W1 k st c W) : Sv D0 V k st c W := by
 obtain ⟨D, h1, h2, h3⟩ := h
 refine ⟨D, h1, fun x hx => ?_, (below_out _ hb).trans h3 (fun j e => .inl e)⟩
 rcases h2 x hx with h | h
 ·exact .inl h
 ·have := hb.size; exact .inr (by omega)
theorem nodup7 {a b c d e f g : Nat} (h : [a, b, c, d, e, f, g].Nodup) : (a ≠ b ∧ a ≠ c ∧ a ≠ d ∧ a ≠ e ∧ a ≠ f ∧ a ≠ g) ∧ (b ≠ c ∧ b ≠ d ∧ b ≠ e ∧ b ≠ f ∧ b ≠ g) ∧ (c ≠ d ∧ c ≠ e ∧ c ≠ f ∧ c ≠ g) ∧ (d ≠ e ∧ d ≠ f ∧ d ≠ g) ∧ (e ≠ f ∧ e ≠ g) ∧ f ≠ g := by
 simpa [List.nodup_cons, not_or, and_assoc] using h
theorem StV.dvstep {zs' : List Zn} (h : StV D W k st c) (hs : Step 105 D W k.pd st.s zs' W') (hw : Wf st.s zs') : Sv D W k { st with zs := zs' } c W' := by
 obtain ⟨hd, ho⟩ := hs
 have hlen : zs'.length = st.zs.length := by have := hw.len; have := h.wf.len; omega
 have hn : ∀ x, k.has x → ¬ D x := h.nd
 refine ⟨Ext D W W', ⟨ho.blk h.hp (hn _ (.inl rfl)), hd, h.sg.out ho (hn _ (.inr (.inl rfl))) (hn _ (.inr (.inr (.inl rfl)))), h.mp.out ho ?_, ho.blk h.hl (hn _ (.inr (.inr (.inr (.inr (.inr (.inr rfl))))))), hw, h.fq, by rw [hlen]; exact h.len, ?_, ?_, h.ap⟩, ?_, ho.mono (fun j e _ => .inl e)⟩
 ·rintro x (rfl | rfl | rfl)
  ·exact hn _ (.inr (.inr (.inr (.inl rfl))))
  ·exact hn _ (.inr (.inr (.inr (.inr (.inl rfl)))))
  ·exact hn _ (.inr (.inr (.inr (.inr (.inr (.inl rfl))))))
 ·rintro x (hx | hx)
  ·exact Nat.lt_of_lt_of_le (h.lt x hx) ho.size
  ·exact hx.2
 ·rintro x hx (hd | hd)
  ·exact hn x hx hd
  ·have := h.kin x hx; omega
 ·rintro x (hx | hx)
  ·exact .inl hx
  ·exact .inr hx.1
theorem StV.sgstep {L' : List Int} (h : StV D W k st c) (hs : SegP W' k.pg k.gg st.s.r L') (ho : Out (fun j => j = k.gg) W W') (hl : L'.length = st.L.length) : Sv D W k { st with L := L' } c W' := by
 obtain ⟨a1, a2, a3, a4, a5, a6⟩ := nodup7 h.ap
 have hg := h.nd k.gg (.inr (.inr (.inl rfl)))
 refine ⟨D, ⟨ho.blk h.hp (by omega), ?_, hs, h.mp.out ho ?_, ho.blk h.hl (by omega), h.wf, h.fq, by rw [hl]; exact h.len, fun x hx => Nat.lt_of_lt_of_le (h.lt x hx) ho.size, h.nd, h.ap⟩, fun x hx => .inl hx, ho.mono (fun j e _ => .inr (.inr (.inr (.inl e))))⟩
 ·obtain ⟨g, cc, vs, hv⟩ := h.dv
  exact ⟨g, cc, vs, hv.out ho (fun x hx e => by subst e; exact hg hx)⟩
 ·rintro x (rfl | rfl | rfl) <;> omega
theorem StV.mpstep {S' : List Pl} (h : StV D W k st c) (hs : LmP W' k.pm k.b1 k.b2 S' c') (ho : Out (Two k.b1 k.b2) W W') : Sv D W k { st with S := S' } c' W' := by
 obtain ⟨a1, a2, a3, a4, a5, a6⟩ := nodup7 h.ap
 have h1 := h.nd k.b1 (.inr (.inr (.inr (.inr (.inl rfl)))))
 have h2 := h.nd k.b2 (.inr (.inr (.inr (.inr (.inr (.inl rfl))))))
 refine ⟨D, ⟨ho.blk h.hp (by unfold Two; omega), ?_, h.sg.out ho (by unfold Two; omega) (by unfold Two; omega), hs, ho.blk h.hl (by unfold Two; omega), h.wf, h.fq, h.len, fun x hx => Nat.lt_of_lt_of_le (h.lt x hx) ho.size, h.nd, h.ap⟩, fun x hx => .inl hx, ho.mono (fun j e _ => by rcases e with e | e; exact .inr (.inr (.inr (.inr (.inr (.inl e))))); exact .inr (.inr (.inr (.inr (.inr (.inr (.inl e)))))))⟩
 obtain ⟨g, cc, vs, hv⟩ := h.dv
 exact ⟨g, cc, vs, hv.out ho (fun x hx e => by rcases e with e | e <;> subst e; exact h1 hx; exact h2 hx)⟩
theorem StV.setP (h : StV D W k st c) {q o : Int} {i : Nat} {v : Value} (hL : (stL k st.q st.la.length st.o).set i v = stL k q st.la.length o) (hq : FitsU q) : Sv D W k { st with q := q, o := o } c (W.setCell ⟨k.ps, i, none⟩ v) := by
 obtain ⟨a1, a2, a3, a4, a5, a6⟩ := nodup7 h.ap
 have n1 : ¬ k.pg = k.ps := fun e => a1.1 e.symm
 have n2 : ¬ k.gg = k.ps := fun e => a1.2.1 e.symm
 have n3 : ¬ k.lb = k.ps := fun e => a1.2.2.2.2.2 e.symm
 have n4 : ∀ x, x = k.pm ∨ x = k.b1 ∨ x = k.b2 → ¬ x = k.ps := by
  rintro x (rfl | rfl | rfl) e
  ·exact a1.2.2.1 e.symm
  ·exact a1.2.2.2.1 e.symm
  ·exact a1.2.2.2.2.1 e.symm
 have hg := h.nd k.ps (.inl rfl)
 have ho : Out (fun j => j = k.ps) W (W.setCell ⟨k.ps, i, none⟩ v) := out_one W k.ps i v
 have hp := h.hp.set i v
 rw [hL] at hp
 clear hL a1 a2 a3 a4 a5 a6
 generalize W.setCell ⟨k.ps, i, none⟩ v = W' at ho hp ⊢
 have dv : Dv 105 D W' k.pd st.s st.zs := by
  obtain ⟨g, cc, vs, hv⟩ := h.dv
  exact ⟨g, cc, vs, hv.out ho (fun x hx e => by subst e; exact hg hx)⟩
 have hlt : ∀ x, D x → x < W'.heap.size := fun x hx => Nat.lt_of_lt_of_le (h.lt x hx) ho.size
 exact ⟨D, ⟨hp, dv, h.sg.out ho n1 n2, h.mp.out ho n4, ho.blk h.hl n3, h.wf, hq, h.len, hlt, h.nd, h.ap⟩, fun x hx => .inl hx, ho.mono (fun j e _ => .inr (.inl e))⟩
theorem kInts_set (kk : IntKind) (L : List Int) (i : Nat) (b : Int) : (kInts kk L).set i (.int kk b) = kInts kk (L.set i b) := by simp [kInts, List.map_set]
theorem StV.setLa (h : StV D W k st c) (i : Nat) (b : Int) : Sv D W k { st with la := st.la.set i b } c (W.setCell ⟨k.lb, i, none⟩ (.int .u64 b)) := by
 obtain ⟨a1, a2, a3, a4, a5, a6⟩ := nodup7 h.ap
 have hg := h.nd k.lb (.inr (.inr (.inr (.inr (.inr (.inr rfl))))))
 have ho : Out (fun j => j = k.lb) W (W.setCell ⟨k.lb, i, none⟩ (.int .u64 b)) := out_one W k.lb i _
 have hp := h.hl.set i (.int .u64 b)
 rw [kInts_set] at hp
 generalize W.setCell ⟨k.lb, i, none⟩ (.int .u64 b) = W' at ho hp ⊢
 refine ⟨D, ⟨?_, ?_, h.sg.out ho (by omega) (by omega), h.mp.out ho ?_, hp, h.wf, h.fq, ⟨h.len.1, by simpa using h.len.2⟩, fun x hx => Nat.lt_of_lt_of_le (h.lt x hx) ho.size, h.nd, h.ap⟩, fun x hx => .inl hx, ho.mono (fun j e _ => .inr (.inr (.inr (.inr (.inr (.inr (.inr e)))))))⟩
 ·have := ho.blk h.hp (by omega)
  simpa using this
 ·obtain ⟨g, cc, vs, hv⟩ := h.dv
  exact ⟨g, cc, vs, hv.out ho (fun x hx e => by subst e; exact hg hx)⟩
 ·rintro x (rfl | rfl | rfl) <;> omega
theorem StV.mono (h : StV D W k st c) (hc : c ≤ c') : StV D W k st c' := ⟨h.hp, h.dv, h.sg, h.mp.mono hc, h.hl, h.wf, h.fq, h.len, h.lt, h.nd, h.ap⟩
theorem Sv.mono (h : Sv D0 V k st c W) (hc : c ≤ c') : Sv D0 V k st c' W := by
 obtain ⟨D, h1, h2⟩ := h
 exact ⟨D, h1.mono hc, h2⟩
theorem StV.cells (h : StV D W k st c) : W.cell? ⟨k.ps, 0, none⟩ = some (.pointer (some ⟨k.pd, 0, none⟩)) ∧ W.cell? ⟨k.ps, 1, none⟩ = some (.pointer (some ⟨k.pg, 0, none⟩)) ∧ W.cell? ⟨k.ps, 2, none⟩ = some (.pointer (some ⟨k.pm, 0, none⟩)) ∧ W.cell? ⟨k.ps, 3, none⟩ = some (.int .u64 st.q) ∧ W.cell? ⟨k.ps, 4, none⟩ = some (.slice (some ⟨k.lb, 0, none⟩) st.la.length st.la.length) ∧ W.cell? ⟨k.ps, 5, none⟩ = some (.int .i64 st.o) :=
 ⟨h.hp.cell 0, h.hp.cell 1, h.hp.cell 2, h.hp.cell 3, h.hp.cell 4, h.hp.cell 5⟩
end
/-! ### Blocks to be put, in memory -/
theorem BIn.out {O : Nat → Prop} {w w' : World} {a : Option Addr} {n : Nat} {zs : List Int} (h : BIn w a n zs) (ho : Out O w w') (hO : n ≠ 0 → ∀ b, a.map (·.block) = some b → ¬ O b) : BIn w' a n zs := by
 obtain ⟨h1, h2, h3, h4⟩ := h
 refine ⟨h1, h2, h3, ?_⟩
 by_cases hn : n = 0
 ·exact .inl hn
 ·obtain ⟨b, off, ha, hc⟩ := h4.resolve_left hn
  exact .inr ⟨b, off, ha, fun i hi => ho.cell (hc i hi) (hO hn b (by rw [ha]; rfl))⟩
def ptL (p : Pt) (v : Value) : List Value := [.int .u32 p.t, .int .u64 p.b, .bool p.x, v]
/-- One of them: its cells; its data, all in X. -/
def PtAt (X : Nat → Prop) (w : World) (b o : Nat) (p : Pt) : Prop :=
 ∃ A L C, (∀ (j : Nat) (v : Value), (ptL p (.slice A L C))[j]? = some v → w.cell? ⟨b, o + j, none⟩ = some v) ∧ BIn w A L p.d ∧ (A = none → L = 0 ∧ C = 0) ∧ L ≤ 10000 ∧ (L ≠ 0 → ∀ y, A.map (·.block) = some y → X y) ∧ p.Fits
def PtsIn (X : Nat → Prop) (w : World) (a : Option Addr) (n : Nat) (l : List Pt) : Prop :=
 l.length = n ∧ n ≤ 1000 ∧ (n = 0 ∨ ∃ b off, a = some ⟨b, off, none⟩ ∧ X b ∧ ∀ (i : Nat) (p : Pt), l[i]? = some p → PtAt X w b (off + i * 4) p)
section
variable {X O : Nat → Prop} {w w' : World} {a : Option Addr} {n : Nat} {l : List Pt}
theorem PtAt.out {b o : Nat} {p : Pt} (h : PtAt X w b o p) (ho : Out O w w') (hb : ¬ O b) (hO : ∀ x, X x → ¬ O x) : PtAt X w' b o p := by
 obtain ⟨A, L, C, h1, h2, h3, h4, h5, h6⟩ := h
 exact ⟨A, L, C, fun j v hv => ho.cell (h1 j v hv) hb, h2.out ho (fun hn y hy => hO y (h5 hn y hy)), h3, h4, h5, h6⟩
theorem PtsIn.out (h : PtsIn X w a n l) (ho : Out O w w') (hO : ∀ x, X x → ¬ O x) : PtsIn X w' a n l := by
 obtain ⟨h1, h2, h3⟩ := h
 refine ⟨h1, h2, ?_⟩
 rcases h3 with h3 | ⟨b, off, ha, hb, hc⟩
 ·exact .inl h3
 ·exact .inr ⟨b, off, ha, hb, fun i p hp => (hc i p hp).out ho (hO b hb) hO⟩
theorem PtsIn.below (h : PtsIn X w a n l) (hb : Below w.heap.size w w') : PtsIn X w' a n l := h.out (below_out Non hb) (fun _ _ e => e)
theorem PtsIn.fits (h : PtsIn X w a n l) : ∀ p ∈ l, p.Fits := by
 intro p hp
 obtain ⟨i, hi⟩ := List.getElem?_of_mem hp
 rcases h.2.2 with h0 | ⟨b, off, _, _, hc⟩
 ·have := (List.getElem?_eq_some_iff.1 hi).1; have := h.1; omega
 ·obtain ⟨_, _, _, _, _, _, _, _, h6⟩ := hc i p hi
  exact h6
theorem PtsIn.part {b off : Nat} (h : PtsIn X w (some ⟨b, off, none⟩) n l) (i m : Nat) (hik : i + m ≤ n) : PtsIn X w (some ⟨b, off + i * 4, none⟩) m ((l.drop i).take m) := by
 obtain ⟨h1, h2, h4⟩ := h
 refine ⟨by rw [List.length_take, List.length_drop]; omega, by omega, ?_⟩
 by_cases h0 : m = 0
 ·exact .inl h0
 ·obtain ⟨b', off', e, hb, hc⟩ := h4.resolve_left (by omega)
  cases e
  refine .inr ⟨_, _, rfl, hb, fun k x hx => ?_⟩
  have hk : k < m := by have := (List.getElem?_eq_some_iff.1 hx).1; rw [List.length_take] at this; omega
  rw [List.getElem?_take_of_lt hk, List.getElem?_drop] at hx
  have := hc (i + k) x hx
  rw [show off + (i + k) * 4 = off + i * 4 + k * 4 by omega] at this
  exact this
theorem PtsIn.front (h : PtsIn X w a n l) (m : Nat) (hm : m ≤ n) : PtsIn X w a m (l.take m) := by
 by_cases h0 : m = 0
 ·subst h0
  exact ⟨by simp, Nat.zero_le _, .inl rfl⟩
 ·obtain ⟨b, off, rfl, _⟩ := h.2.2.resolve_left (by omega)
  simpa using h.part 0 m (by omega)
theorem PtsIn.back {c : Nat} (h : PtsIn X w a n l) (i : Nat) (hi : i ≤ n) (hc : n ≤ c) : PtsIn X w (kleft a c i) (n - i) (l.drop i) := by
 by_cases h0 : n - i = 0
 ·exact ⟨by rw [List.length_drop, h.1], by have := h.2.1; omega, .inl h0⟩
 ·obtain ⟨b, off, rfl, _⟩ := h.2.2.resolve_left (by omega)
  unfold kleft
  rw [if_neg (by omega)]
  have := h.part i (n - i) (by omega)
  rw [List.take_of_length_le (by rw [List.length_drop, h.1]; exact Nat.le_refl _)] at this
  simpa [Addr.add_mid] using this
end
theorem Tryz.four_puts : ∀ w : World, (sizeOf (Tryz.prog.elem 32)).run Tryz.prog w = .ok 4 w := fun _ => by kernel_rfl
theorem pslice_front (a : Option Addr) (n c k : Nat) (hk : k ≤ c) (w : World) :
  (Instr.slice 32 (.slice a n c) none (some (.int .i64 (k : Int))) none).run Tryz.prog w = .ok (.slice a k c) w := by
 rw [run_slice_h (P := Tryz.prog) w 32 a n c Tryz.underlying32 .i64 k (by omega) (by omega), Tryz.four_puts w]
 simp only [Result.andThen, Int.toNat_natCast]
 unfold sliced
 cases a with
 | none => simp
 | some x => simp [Addr.add]
theorem pslice_back (a : Option Addr) (n c k : Nat) (hk : k ≤ n) (w : World) :
  (Instr.slice 32 (.slice a n c) (some (.int .i64 (k : Int))) none none).run Tryz.prog w = .ok (.slice (kleft a c k) (n - k) (c - k)) w := by
 rw [run_slice_l (P := Tryz.prog) w 32 a n c Tryz.underlying32 .i64 k (by omega) (by omega), Tryz.four_puts w]
 simp only [Result.andThen, Int.toNat_natCast]
 rfl
end
end Go.Proofs.YtcdnjeiamihhbabGreat
