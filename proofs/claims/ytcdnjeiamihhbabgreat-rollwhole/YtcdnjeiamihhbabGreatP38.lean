/- P38 -/
import Derived.Test.YtcdnjeiamihhbabGreatP36
set_option linter.unusedVariables false
set_option maxRecDepth 4000
namespace Go.Proofs.YtcdnjeiamihhbabGreat
open Go.RowKit
/-- The block at a place. -/
def blkZ (zs : List Zn) (a : Pr) : Option (List Int) := if 0 ≤ a.1 ∧ 0 ≤ a.2 then (zs[a.1.toNat]?).bind (fun z => z.1[a.2.toNat]?) else none
theorem blkZ_nat (zs : List Zn) (i j : Nat) : blkZ zs ((i : Int), (j : Int)) = (zs[i]?).bind (fun z => z.1[j]?) := by simp [blkZ]
theorem blkZ_some {zs : List Zn} {a : Pr} {E : List Int} (h : blkZ zs a = some E) : ∃ (i j : Nat) (z : Zn), a = ((i : Int), (j : Int)) ∧ zs[i]? = some z ∧ z.1[j]? = some E := by
 unfold blkZ at h
 split at h
 ·rename_i hp
  obtain ⟨z, hz, hE⟩ := Option.bind_eq_some_iff.1 h
  exact ⟨a.1.toNat, a.2.toNat, z, by obtain ⟨x, y⟩ := a; simp at hp ⊢; omega, hz, hE⟩
 ·cases h
theorem blkZ_app {s : Sh} {zs : List Zn} {z : Int} {E : List Int} {a : Pr} {F : List Int} (h : blkZ zs a = some F) : blkZ (appZ s zs z E) a = some F := by
 unfold appZ
 split
 ·split
  ·exact h
  ·rename_i ho hf
   obtain ⟨i, j, y, rfl, hy, hF⟩ := blkZ_some h
   rw [blkZ_nat]
   by_cases hi : z.toNat = i
   ·subst hi
    have hlt := (List.getElem?_eq_some_iff.1 hy).1
    have e : atZ zs z = y := by
     have := atZ_in hy
     rw [Int.toNat_of_nonneg ho.1] at this
     exact this
    rw [List.getElem?_set_self hlt]
    simp only [Option.bind_some, e]
    rw [List.getElem?_append_left (List.getElem?_eq_some_iff.1 hF).1]
    exact hF
   ·rw [List.getElem?_set_ne hi, hy]
    exact hF
 ·exact h
/-- The place at which a block is appended was none; there it stands then. -/
theorem app_new {s : Sh} {zs : List Zn} {z : Nat} {E : List Int} (hok : appOk s zs z E) (hf : ¬ appFull s zs z) :
  appA s zs z E = ((z : Int), ((atZ zs z).1.length : Int)) ∧ blkZ zs (appA s zs z E) = none ∧ blkZ (appZ s zs z E) (appA s zs z E) = some E ∧ (atZ (appZ s zs z E) z).1.length = (atZ zs z).1.length + 1 := by
 have hA : appA s zs z E = ((z : Int), ((atZ zs z).1.length : Int)) := by unfold appA; rw [if_pos hok, if_neg hf]
 have hz : z < zs.length := by have := hok.2.1; omega
 have hy : zs[z]? = some zs[z] := by simp [hz]
 have e : atZ zs z = zs[z] := atZ_in hy
 have hZ : appZ s zs z E = zs.set z ((atZ zs z).1 ++ [E], (atZ zs z).2) := by unfold appZ; rw [if_pos hok, if_neg hf]; simp
 refine ⟨hA, ?_, ?_, ?_⟩
 ·rw [hA, blkZ_nat, hy, e]; simp
 ·rw [hA, hZ, blkZ_nat, List.getElem?_set_self hz]; simp
 ·rw [hZ, atZ_in (List.getElem?_set_self hz)]; simp
/-- What a store tells of a name. -/
def memS (zs : List Zn) (S : List Pl) (n : Pr) : Option (List Int) := (getS S n).bind (blkZ zs)
def updP (M : Pr → Option (List Int)) (p : Pt) : Pr → Option (List Int) := fun n => if n = p.n then (if p.x = true then none else some p.d) else M n
/-- Places are there. -/
def Plc (zs : List Zn) (S : List Pl) : Prop := Good S ∧ ∀ x ∈ S, (blkZ zs x.2).isSome
theorem Plc.app {s : Sh} {zs : List Zn} {S : List Pl} (h : Plc zs S) (z : Int) (E : List Int) : Plc (appZ s zs z E) S ∧ memS (appZ s zs z E) S = memS zs S := by
 have hk : ∀ x ∈ S, blkZ (appZ s zs z E) x.2 = blkZ zs x.2 := fun x hx => by
  obtain ⟨F, hF⟩ := Option.isSome_iff_exists.1 (h.2 x hx)
  rw [hF]; exact blkZ_app hF
 refine ⟨⟨h.1, fun x hx => by rw [hk x hx]; exact h.2 x hx⟩, ?_⟩
 funext n
 unfold memS
 cases hg : getS S n with
 | none => rfl
 | some a => exact hk (n, a) ((getS_some h.1).1 hg)
theorem get_drop_other {S : List Pl} (h : Good S) {n m : Pr} (hne : m ≠ n) : getS (dropS S n) m = getS S m := by
 cases hg : getS S m with
 | none => exact getS_none.2 (fun s hs => getS_none.1 hg s (mem_dropS.1 hs).1)
 | some a => exact (getS_some (h.drop n)).2 (mem_dropS.2 ⟨(getS_some h).1 hg, hne⟩)
theorem Plc.drop {zs : List Zn} {S : List Pl} (h : Plc zs S) {p : Pt} (hx : p.x = true) : Plc zs (dropS S p.n) ∧ memS zs (dropS S p.n) = updP (memS zs S) p := by
 refine ⟨⟨h.1.drop _, fun x hx => h.2 x (mem_dropS.1 hx).1⟩, ?_⟩
 funext n
 unfold updP
 rw [if_pos hx]
 split
 ·rename_i e
  subst e
  unfold memS
  rw [getS_none.2 (fun s hs => (mem_dropS.1 hs).2 rfl)]
  rfl
 ·rename_i e
  unfold memS
  rw [get_drop_other h.1 e]
theorem Plc.put {s : Sh} {zs : List Zn} {S : List Pl} (h : Plc zs S) {z : Nat} {p : Pt} (hx : p.x = false) (hok : appOk s zs z p.d) (hf : ¬ appFull s zs z) (hfit : FitsP (p.n, appA s zs z p.d)) :
  Plc (appZ s zs z p.d) (putS S (p.n, appA s zs z p.d)) ∧ memS (appZ s zs z p.d) (putS S (p.n, appA s zs z p.d)) = updP (memS zs S) p := by
 obtain ⟨hA, h0, h1, _⟩ := app_new hok hf
 have hapart : ∀ x ∈ S, x.2 ≠ appA s zs z p.d := fun x hx e => by have := h.2 x hx; rw [e, h0] at this; cases this
 have hg := h.1.put hfit
 refine ⟨⟨hg, fun x hx => ?_⟩, ?_⟩
 ·rcases (mem_putS h.1).1 hx with rfl | ⟨h2, _, _⟩
  ·show (blkZ _ (appA s zs z p.d)).isSome = true
   rw [h1]; rfl
  ·obtain ⟨F, hF⟩ := Option.isSome_iff_exists.1 (h.2 x h2)
   rw [blkZ_app hF]; rfl
 ·funext n
  unfold updP
  split
  ·rename_i e
   subst e
   rw [if_neg (by rw [hx]; decide)]
   unfold memS
   rw [(getS_some hg).2 ((mem_putS h.1).2 (.inl rfl))]
   exact h1
  ·rename_i e
   unfold memS
   cases hgn : getS S n with
   | none =>
    rw [getS_none.2 (fun a ha => by
     rcases (mem_putS h.1).1 ha with h2 | ⟨h2, _⟩
     ·exact e (congrArg Prod.fst h2)
     ·exact getS_none.1 hgn a h2)]
    rfl
   | some a =>
    have hm := (getS_some h.1).1 hgn
    rw [(getS_some hg).2 ((mem_putS h.1).2 (.inr ⟨hm, e, hapart _ hm⟩))]
    obtain ⟨F, hF⟩ := Option.isSome_iff_exists.1 (h.2 _ hm)
    show blkZ (appZ s zs z p.d) a = blkZ zs a
    rw [blkZ_app hF]
    exact hF.symm
/-- How many of them have data. -/
def datN (l : List Pt) : Nat := (l.filter (fun p => !p.x)).length
theorem frN_dat : ∀ (l : List Pt) (k : Nat) (d : Int), (datN (l.take (frN l k d)) : Int) ≤ max d 0
 | [], k, d => by simp [frN, datN]; omega
 | p :: l, 0, d => by simp [frN, datN]; omega
 | p :: l, k + 1, d => by
  unfold frN
  split
  ·rename_i hx
   have := frN_dat l k d
   simp only [List.take_succ_cons, datN, List.filter_cons, hx] at this ⊢
   simpa using this
  ·rename_i hx
   split
   ·have := frN_dat l k (d - 1)
    simp only [List.take_succ_cons, datN, List.filter_cons, Bool.eq_false_iff.2 hx] at this ⊢
    simp
    omega
   ·simp [datN]; omega
section
def memT (st : St) : Pr → Option (List Int) := memS st.zs st.S
section
variable {D : Nat → Prop} {W : World} {k : Bs} {st : St} {c : Nat}
theorem mem_read {zs : List Zn} {S : List Pl} (h : Plc zs S) {n a : Pr} (hg : getS S n = some a) : ∃ E, memS zs S n = some E ∧ rdE zs a.1 a.2 = 0 ∧ rdB zs a.1 a.2 = E := by
 obtain ⟨E, hE⟩ := Option.isSome_iff_exists.1 (h.2 (n, a) ((getS_some h.1).1 hg))
 obtain ⟨i, j, z, rfl, hz, hj⟩ := blkZ_some hE
 have := rd_at hz hj
 exact ⟨E, by unfold memS; rw [hg]; exact hE, this⟩
set_option maxHeartbeats 1000000 in
theorem sget_of (h : StV D W k st c) (n : Pr) (hn : FitsN n) (hp : Plc st.zs st.S) :
  Calls Tryz.prog 20 #[.pointer (some ⟨k.ps, 0, none⟩), .int .u32 n.1, .int .u64 n.2] W fun e w' => ∃ v, e = .returned (.tuple #[v, .bool (memT st n).isSome]) ∧ BkAt (fun x => W.heap.size ≤ x) w' v ((memT st n).getD []) ∧ Below W.heap.size W w' := by
 obtain ⟨s0, _, s2, _⟩ := h.cells
 have hG := mGet_of k.pm k.b1 k.b2 st.S c n W h.mp hn
 have H : Hid (StV D W k st c ∧ Plc st.zs st.S) := ⟨h, hp⟩
 cases hg : getS st.S n with
 | none =>
  have hm : memT st n = none := by unfold memT memS; rw [hg]; rfl
  rw [hm]
  rw [hg] at hG
  clear h hp
  have HG : Hid (Calls Tryz.prog 56 #[.pointer (some ⟨k.pm, 0, none⟩), .int .u32 n.1, .int .u64 n.2] W fun e w' => e = .returned (.tuple #[.agg #[.int .i64 0, .int .i64 0], .bool false]) ∧ Below W.heap.size W w') := hG
  clear hG
  go_enter Tryz.func20, Tryz.ntmps20
  go_wp2_with (go_at_call 56; refine HG.out.mono ?_; rintro e W1 ⟨rfl, hb1⟩)
  go_ret2
  exact ⟨_, rfl, BkAt.nil _ _, hb1.alloc hb1.size _⟩
 | some a =>
  obtain ⟨E, hm, hrE, hrB⟩ := mem_read hp hg
  have hm' : memT st n = some E := hm
  rw [hm']
  rw [hg] at hG
  have HG : Hid (Calls Tryz.prog 56 #[.pointer (some ⟨k.pm, 0, none⟩), .int .u32 n.1, .int .u64 n.2] W fun e w' => e = .returned (.tuple #[.agg #[.int .i64 a.1, .int .i64 a.2], .bool true]) ∧ Below W.heap.size W w') := hG
  have HE : Hid (rdE st.zs a.1 a.2 = 0 ∧ rdB st.zs a.1 a.2 = E) := ⟨hrE, hrB⟩
  clear hG h hp hm hm' hrE hrB
  go_enter Tryz.func20, Tryz.ntmps20
  go_wp2_with (go_at_call 56; refine HG.out.mono ?_; rintro e W1 ⟨rfl, hb1⟩)
  have HV : Hid (Below W.heap.size W (W1.alloc (.cells #[.int .i64 a.1, .int .i64 a.2] 55)) ∧ Blk (W1.alloc (.cells #[.int .i64 a.1, .int .i64 a.2] 55)) W1.heap.size [.int .i64 a.1, .int .i64 a.2] 55) := ⟨hb1.alloc hb1.size _, Blk.new' rfl rfl⟩
  clear hb1 s0 s2
  generalize World.alloc W1 _ = V at HV ⊢
  generalize W1.heap.size = ga at HV ⊢
  have t0 := (H.out.1.under HV.out.1).cells.1
  have a0 : V.cell? ⟨ga, 0, none⟩ = some (.int .i64 a.1) := HV.out.2.cell 0
  have a1 : V.cell? ⟨ga, 1, none⟩ = some (.int .i64 a.2) := HV.out.2.cell 1
  have HR2 : Hid (Calls Tryz.prog 13 #[.pointer (some ⟨k.pd, 0, none⟩), .agg #[.int .i64 a.1, .int .i64 a.2]] V.drew fun e w' => ∃ A L C, e = .returned (.tuple #[.slice A L C, .int .u16 0]) ∧ (BkAt (fun x => W.heap.size ≤ x) w' (.slice A L C) E ∧ Below W.heap.size W w') ∧ w'.cell? ⟨k.ps, 0, none⟩ = some (.pointer (some ⟨k.pd, 0, none⟩)) ∧ w'.cell? ⟨ga, 0, none⟩ = some (.int .i64 a.1) ∧ w'.cell? ⟨ga, 1, none⟩ = some (.int .i64 a.2)) := by
   have hbV : Below V.heap.size V V.drew := (Below.refl _ _).drew
   refine (read_of a.1 a.2 (H.out.1.under (HV.out.1.trans (hbV.mono HV.out.1.size))).dv H.out.1.wf).mono ?_
   rintro e w' ⟨v, rfl, h1, h2⟩
   obtain ⟨A, C, hv⟩ := own_slice h1.1
   subst hv
   have hb' : Below V.heap.size V w' := hbV.trans h2
   have hbW := HV.out.1.trans (hb'.mono HV.out.1.size)
   refine ⟨A, _, C, by rw [HE.out.1], ⟨?_, hbW⟩, (H.out.1.under hbW).cells.1, (HV.out.2.below hb' HV.out.2.lt).cell 0, (HV.out.2.below hb' HV.out.2.lt).cell 1⟩
   rw [← HE.out.2]
   exact h1.mono (fun x hx _ => by have := HV.out.1.size; exact Nat.le_trans this hx)
  go_region_held3 (fun Y => Y.cell? ⟨k.ps, 0, none⟩ = some (.pointer (some ⟨k.pd, 0, none⟩)) ∧ Y.cell? ⟨ga, 0, none⟩ = some (.int .i64 a.1) ∧ Y.cell? ⟨ga, 1, none⟩ = some (.int .i64 a.2)) (first | exact ⟨t0, a0, a1⟩ | exact ⟨u0, b0, b1⟩)
   (first | (go_simp; go_at_call 13; refine HR2.out.mono ?_; rintro e V9 ⟨A9, L9, C9, rfl, bk, u0, b0, b1⟩))
  have HB : Hid (BkAt (fun x => W.heap.size ≤ x) V9 (.slice A9 L9 C9) E ∧ Below W.heap.size W V9) := bk
  clear bk u0 b0 b1 t0 a0 a1 HR2
  go_wp2
  go_ret2
  exact ⟨_, rfl, HB.out.1, HB.out.2⟩
end
end
end Go.Proofs.YtcdnjeiamihhbabGreat
