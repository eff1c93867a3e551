/- Texts of this seat, one behind the other: StK, StQ, ZBlock, StL. -/
import Derived.Test.YtncnkpnfmbgifaaGreatP22c
import Derived.Test.YtncnkpnfmbgifaaGreatP22b
import Derived.Test.YtncnkpnfmbgifaaGreatP14
import Derived.Test.YtncnkpnfmbgifaaGreatP21
import Derived.Laws.ResultCell
/- The chapter's example, as lists; a store that is new. -/
namespace Go.Proofs.YtncnkpnfmbgifaaGreat
open Go.RowKit
set_option linter.unusedVariables false
set_option maxRecDepth 4000
theorem st0_at (s : Sh) {i : Nat} (h1 : 1 ≤ i) : atZ (st0 s).zs i = ([], 0) := by
 have he : ∀ (n i : Nat), atZ (emptyZ n) i = ([], 0) := fun n i => by
  unfold atZ emptyZ
  rw [if_pos (by omega), Int.toNat_natCast, List.getD_eq_getElem?_getD]
  by_cases h : i < n
  ·simp [h]
  ·simp [h]
 show atZ (svZ s (emptyZ s.z.toNat) 0 0 []) i = ([], 0)
 unfold svZ
 split
 ·unfold putZ flushZ
  have h2 := he s.z.toNat i
  unfold atZ at h2 ⊢
  rw [if_pos (by omega), Int.toNat_natCast, List.getD_eq_getElem?_getD] at h2 ⊢
  rw [List.getElem?_mapIdx, List.getElem?_set_ne (by simp; omega)]
  cases hz : (emptyZ s.z.toNat)[i]? with
  | none => rfl
  | some z => rw [hz] at h2; simp only [Option.getD_some] at h2; subst h2; rfl
 ·exact he _ _
theorem st0_inv {s : Sh} (h : RightS s) : Inv (st0 s) := by
 have hw : Wf s (svZ s (emptyZ s.z.toNat) 0 0 []) := swf_svZ (empty_wf h) 0 0 []
 refine ⟨hw, ⟨good_nil, fun x hx => by cases hx⟩, ?_⟩
 have := hw.len
 have h6 := h.1
 show (newZ s.z.toNat).length = (svZ s (emptyZ s.z.toNat) 0 0 []).length
 rw [newZ_length (by omega)]
 omega
def s6 : Sh := ⟨6, 8, 64, 2⟩
theorem s6_right : RightS s6 := by unfold RightS s6 Powers; simp
def pA : Pt := ⟨1, 5, false, List.replicate 64 0⟩
def pB : Pt := ⟨1, 5, true, []⟩
theorem pB_fits : pB.Fits := ⟨by unfold Fits32 pB; simp, by unfold FitsU pB; simp, by simp [pB]⟩
theorem putM_one {st : St} {p : Pt} {i : Nat} {L' : List Int} (ho : okP st.s [p]) (hz : openZ st.s st.zs (needP p) st.L = ((i : Int), true, L')) (hf : frontN st i [p] = 1) : putM st [p] = (0, writeM { st with L := L' } i [p]) := by
 unfold putM
 rw [if_pos ho]
 show putF 1 st [p] = _
 unfold putF
 rw [hz]
 simp only [if_pos]
 rw [hf]
 rfl
end Go.Proofs.YtncnkpnfmbgifaaGreat

/- What one call of Put, of Get of the store does. -/
namespace Go.Proofs.YtncnkpnfmbgifaaGreat
open Go.RowKit
set_option linter.unusedVariables false
set_option maxRecDepth 4000
section
variable {D : Nat → Prop} {W : World} {k : Bs} {st : St} {c : Nat}
def lenOf : Value → Nat
  | .slice _ m _ => m
  | _ => 0
theorem sstep_of (h : StV D W k st c) (a : Option Addr) (m cc : Nat) (p : Pt) (l : List Pt) (X : Nat → Prop) (hl : PtsIn X W a m (p :: l)) (hcc : m ≤ cc) (hX : ∀ x, X x → ¬ StO D k x ∧ x < W.heap.size) (hc : c + m < 100000) :
    Calls Tryz.prog 71 #[.pointer (some ⟨k.ps, 0, none⟩), .int .i64 (needP p)] W fun e w3 => e = .returned (.tuple #[.int .i64 (openZ st.s st.zs (needP p) st.L).1, .bool (openZ st.s st.zs (needP p) st.L).2.1]) ∧ Sv D W k { st with L := (openZ st.s st.zs (needP p) st.L).2.2 } c w3 ∧
      ((openZ st.s st.zs (needP p) st.L).2.1 = true → Calls Tryz.prog 75 #[.pointer (some ⟨k.ps, 0, none⟩), .int .i64 (openZ st.s st.zs (needP p) st.L).1] w3 fun e w4 => e = .returned (.int .i64 (roomZ st.s st.zs (openZ st.s st.zs (needP p) st.L).1)) ∧
        Calls Tryz.prog 73 #[.slice a m cc, .int .i64 (roomI st.s.b), .int .i64 (roomZ st.s st.zs (openZ st.s st.zs (needP p) st.L).1 - 1)] w4 fun e w5 => e = .returned (.slice a (frontN st (openZ st.s st.zs (needP p) st.L).1 (p :: l)) cc) ∧
          Calls Tryz.prog 76 #[.pointer (some ⟨k.ps, 0, none⟩), .int .i64 (openZ st.s st.zs (needP p) st.L).1, .slice a (frontN st (openZ st.s st.zs (needP p) st.L).1 (p :: l)) cc] w5 fun e w6 => e = .returned (.tuple #[]) ∧ Sv D W k (writeM { st with L := (openZ st.s st.zs (needP p) st.L).2.2 } (openZ st.s st.zs (needP p) st.L).1 ((p :: l).take (frontN st (openZ st.s st.zs (needP p) st.L).1 (p :: l)))) (c + frontN st (openZ st.s st.zs (needP p) st.L).1 (p :: l)) w6) := by
  refine (open_of (needP p) h).mono ?_
  rintro e w3 ⟨rfl, sv3⟩
  refine ⟨rfl, sv3, fun hb => ?_⟩
  obtain ⟨i, h1, h2, h3, h4⟩ := openZ_in st.s st.zs (needP p) _ st.L rfl hb
  rw [h1]
  obtain ⟨D3, hv3, hD3, ho3⟩ := sv3
  refine (sroom_of (i : Nat) hv3).mono ?_
  rintro e w4 ⟨rfl, b4⟩
  have hR := roomI_nat h.wf.right
  have hrl := room_le st.s.b
  have hat := h.wf.at_le i
  have hzb := h.wf.right.2.2.2.1
  have hr0 : roomZ st.s st.zs i ≤ 4096 := by unfold roomZ; omega
  have hr1 : 1 ≤ roomZ st.s st.zs i := by have : 1 ≤ needP p := by unfold needP; split <;> omega
                                          omega
  refine ⟨rfl, ?_⟩
  have ho4 := ho3.under b4
  have hl4 := hl.out ho4 (fun x hx => (hX x hx).1)
  rw [← hR.2]
  refine (front_of a m cc (p :: l) X (roomI st.s.b).toNat (roomZ st.s st.zs i - 1) hl4 hcc (by omega) ⟨by omega, by omega⟩).mono ?_
  rintro e w5 ⟨rfl, b5⟩
  refine ⟨rfl, ?_⟩
  have hv5 := (hv3.under b4).under b5
  have hle := (frN_le (p :: l) (roomI st.s.b).toNat (roomZ st.s st.zs i - 1)).1
  have hlm := hl.1
  refine (write_of i hv5 (by show i < st.zs.length; rw [← h.len.1]; exact h2) a (frontN st i (p :: l)) cc ((p :: l).take (frontN st i (p :: l))) X ((hl4.below b5).front _ (by rw [← hlm]; exact hle)) (fun x hx => ⟨fun hs => ?_, ?_⟩) (by have : frontN st i (p :: l) ≤ m := (by rw [← hlm]; exact hle); omega)).mono ?_
  · rcases hs with hs | hs
    · rcases hD3 x hs with h | h
      · exact (hX x hx).1 (.inl h)
      · have := (hX x hx).2; omega
    · exact (hX x hx).1 (.inr hs)
  · have := (hX x hx).2; have := ho4.size; have := b5.size; omega
  · rintro e w6 ⟨rfl, sv6⟩
    exact ⟨rfl, Sv.next hD3 (ho4.under b5) sv6⟩
set_option maxHeartbeats 4000000 in
theorem sput_of (h : StV D W k st c) (a : Option Addr) (n cc : Nat) (l : List Pt) (X : Nat → Prop) (hl : PtsIn X W a n l) (hcc : n ≤ cc) (hX : ∀ x, X x → ¬ StO D k x ∧ x < W.heap.size) (hc : c + n < 100000) :
    Calls Tryz.prog 34 #[.pointer (some ⟨k.ps, 0, none⟩), .slice a n cc] W fun e w' => e = .returned (.int .u16 (putM st l).1) ∧ Sv D W k (putM st l).2 (c + n) w' := by
  obtain ⟨s0, _⟩ := h.cells
  have H : Hid (StV D W k st c ∧ PtsIn X W a n l ∧ (∀ x, X x → ¬ StO D k x ∧ x < W.heap.size) ∧ c + n < 100000) := ⟨h, hl, hX, hc⟩
  have hn1 := hl.2.1
  have hfb := Tryz.shape_b (.int .i64 st.s.z) (.int .i64 st.s.zb) (.int .i64 st.s.b) (.int .i64 st.s.r)
  have HSh : Hid (Calls Tryz.prog 54 #[.pointer (some ⟨k.pd, 0, none⟩)] W fun e w' => e = .returned (.agg #[.int .i64 st.s.z, .int .i64 st.s.zb, .int .i64 st.s.b, .int .i64 st.s.r]) ∧ Below W.heap.size W w') := dshape_of h.dv
  clear h hl hX hc
  go_enter Tryz.func34, Tryz.ntmps34
  go_wp2_with (go_at_call 54; refine HSh.out.mono ?_; rintro e W1 ⟨rfl, hb1⟩)
  clear s0 hfb HSh
  have HB1 : Hid (Below W.heap.size W W1) := hb1
  clear hb1
  go_loopw [20] (fun x wr => ∃ j : Nat, x = .int .i64 j ∧ j ≤ n ∧ Below W.heap.size W wr ∧ ∀ i p, i < j → l[i]? = some p → p.x = true ∨ (p.d.length : Int) = st.s.b) (fun x _ => n - (intOf x).toNat)
  case atStart => exact ⟨0, rfl, Nat.zero_le _, HB1.out, fun i p hi => by omega⟩
  case round =>
    obtain ⟨j, rfl, hj, hb, hok⟩ := hrel
    rcases Nat.lt_or_ge j n with hlt | hge
    · have hj' : (j : Int) < n := by omega
      have hwj : IntKind.i64.wrap ((j : Int) + 1) = (j : Int) + 1 := by rw [IntKind.wrap_i64]; omega
      obtain ⟨p, b, off, hp, rfl, hbx, A1, L1, C1, hcl, hbin, _⟩ := (H.out.2.1.below hb).at X hlt
      have x0 : wr.cell? ⟨b, off + j * 4, none⟩ = some (.int .u32 p.t) := hcl 0 _ rfl
      have x1 : wr.cell? ⟨b, off + j * 4 + 1, none⟩ = some (.int .u64 p.b) := hcl 1 _ rfl
      have x2 : wr.cell? ⟨b, off + j * 4 + 2, none⟩ = some (.bool p.x) := hcl 2 _ rfl
      have x3 : wr.cell? ⟨b, off + j * 4 + 3, none⟩ = some (.slice A1 L1 C1) := hcl 3 _ rfl
      have hbV : ∀ o, Below W.heap.size W (wr.alloc o) := fun o => hb.alloc hb.size o
      have hL : p.d.length = L1 := hbin.1
      have HN : Hid (∀ i q, i < j → l[i]? = some q → q.x = true ∨ (q.d.length : Int) = st.s.b) := hok
      have HBV : Hid (∀ o, Below W.heap.size W (wr.alloc o)) := hbV
      have HP : Hid (l[j]? = some p ∧ p.d.length = L1) := ⟨hp, hL⟩
      clear hcl hbin hbV hp hok hb hL
      cases hx : p.x with
      | true =>
        rw [hx] at x2
        go_wp2
        go_roundw
        case rel => exact ⟨j + 1, by simp, by omega, HBV.out _, fun i q hi hq => by
          rcases Nat.lt_or_ge i j with h | h
          · exact HN.out i q h hq
          · obtain rfl : i = j := by omega
            rw [HP.out.1] at hq
            cases hq
            exact .inl hx⟩
        case measure => simp [intOf]; omega
      | false =>
        rw [hx] at x2
        by_cases hLb : (L1 : Int) = st.s.b
        · have hLn : ((L1 : Int) != st.s.b) = false := by simp [hLb]
          go_wp2
          go_roundw
          case rel => exact ⟨j + 1, by simp, by omega, HBV.out _, fun i q hi hq => by
            rcases Nat.lt_or_ge i j with h | h
            · exact HN.out i q h hq
            · obtain rfl : i = j := by omega
              rw [HP.out.1] at hq
              cases hq
              exact .inr (by rw [HP.out.2]; exact hLb)⟩
          case measure => simp [intOf]; omega
        · have hLn : ((L1 : Int) != st.s.b) = true := by simp [hLb]
          have HM : Hid (putM st l = (1, st)) := by
            show _ = _
            unfold putM
            rw [if_neg (fun ho => by
              have := ho p (List.mem_of_getElem? HP.out.1)
              rw [hx, HP.out.2] at this
              exact hLb (this.resolve_left (by decide)))]
          clear hLb
          go_wp2
          go_ret
          rw [HM.out]
          exact ⟨rfl, ((Sv.start H.out.1).under (HBV.out _)).mono (by omega)⟩
    · obtain rfl : j = n := by omega
      have HO : Hid (okP st.s l ∧ Below W.heap.size W wr) := ⟨fun p hp => by
        obtain ⟨i, hi⟩ := List.getElem?_of_mem hp
        exact hok i p (by have := (List.getElem?_eq_some_iff.1 hi).1; rw [H.out.2.1.1] at this; exact this) hi, hb⟩
      clear hok hb
      go_wp2_with fail
      go_loopw [8] (fun v wr => ∃ (l' : List Pt) (a' : Option Addr) (m cc' f : Nat) (st' : St) (c' : Nat), v = .slice a' m cc' ∧ m ≤ cc' ∧ PtsIn X W a' m l' ∧ st'.s = st.s ∧ l'.length ≤ f ∧ c' + m ≤ c + j ∧ Sv D W k st' c' wr ∧ putF f st' l' = putF l.length st l) (fun v _ => lenOf v)
      case atStart => exact ⟨l, a, j, cc, l.length, st, c, rfl, hcc, H.out.2.1, rfl, Nat.le_refl _, Nat.le_refl _, (Sv.start H.out.1).under HO.out.2, rfl⟩
      case round =>
        obtain ⟨l', a', m, cc', f, st', c', rfl, hmc, hpts, hss, hlf, hcm, ⟨D', hv, hD, ho⟩, hput⟩ := hrel
        have HM : Hid (putM st l = putF f st' l') := by show _ = _; unfold putM; rw [if_pos HO.out.1, hput]
        cases l' with
        | nil =>
          have hm0 : m = 0 := hpts.1.symm
          subst hm0
          have HS : Hid (Sv D W k st' (c + j) wr) := Sv.mono ⟨D', hv, hD, ho⟩ (by omega)
          clear hv hD ho hput hpts
          go_wp2
          go_ret
          rw [HM.out, putFnil]
          exact ⟨rfl, HS.out⟩
        | cons p r =>
          obtain ⟨f, rfl⟩ : ∃ f', f = f' + 1 := ⟨f - 1, by simp only [List.length_cons] at hlf; omega⟩
          have hm1 : m = r.length + 1 := hpts.1.symm
          have hm0 : 0 < m := by omega
          have hm0' : (0 : Int) < m := by omega
          have hpw := hpts.out ho (fun x hx => (H.out.2.2.1 x hx).1)
          obtain ⟨p', b, off, hp, rfl, hbx, A1, L1, C1, hcl, _⟩ := hpw.at X hm0
          simp only [List.getElem?_cons_zero, Option.some.injEq] at hp
          subst hp
          have x0 : wr.cell? ⟨b, off, none⟩ = some (.int .u32 p.t) := by simpa using hcl 0 _ rfl
          have x1 : wr.cell? ⟨b, off + 1, none⟩ = some (.int .u64 p.b) := by simpa using hcl 1 _ rfl
          have x2 : wr.cell? ⟨b, off + 2, none⟩ = some (.bool p.x) := by simpa using hcl 2 _ rfl
          have x3 : wr.cell? ⟨b, off + 3, none⟩ = some (.slice A1 L1 C1) := by simpa using hcl 3 _ rfl
          have hX' : ∀ w', Below wr.heap.size wr w' → ∀ x, X x → ¬ StO D' k x ∧ x < w'.heap.size := fun w' hb x hx => ⟨fun hs => by
            rcases hs with hs | hs
            · rcases hD x hs with h | h
              · exact (H.out.2.2.1 x hx).1 (.inl h)
              · have := (H.out.2.2.1 x hx).2; omega
            · exact (H.out.2.2.1 x hx).1 (.inr hs), by have := (H.out.2.2.1 x hx).2; have := ho.size; have := hb.size; omega⟩
          have HNe : Hid (Calls Tryz.prog 72 #[.agg #[.int .u32 p.t, .int .u64 p.b, .bool p.x, .slice A1 L1 C1]] wr fun e w' => e = .returned (.int .i64 (needP p)) ∧ Below wr.heap.size wr w') := need_of p _ wr
          have HSt : Hid (∀ w', Below wr.heap.size wr w' → _) := fun w' hb => sstep_of (hv.under hb) (some ⟨b, off, none⟩) m cc' p r X (hpw.below hb) hmc (hX' w' hb) (by have := H.out.2.2.2; omega)
          have HSv : Hid ((∀ x, D' x → D x ∨ W.heap.size ≤ x) ∧ (∀ w', Below wr.heap.size wr w' → Out (StO D k) W w')) := ⟨hD, fun w' hb => ho.under hb⟩
          have HP : Hid (PtsIn X W (some ⟨b, off, none⟩) m (p :: r)) := hpts
          have hbs : st'.s.b = st.s.b := by rw [hss]
          have HR : Hid (RightS st'.s) := hv.wf.right
          have HF : Hid (putF (f + 1) st' (p :: r) = if (openZ st'.s st'.zs (needP p) st'.L).2.1 = true then putF f (writeM { st' with L := (openZ st'.s st'.zs (needP p) st'.L).2.2 } (openZ st'.s st'.zs (needP p) st'.L).1 ((p :: r).take (frontN st' (openZ st'.s st'.zs (needP p) st'.L).1 (p :: r)))) ((p :: r).drop (frontN st' (openZ st'.s st'.zs (needP p) st'.L).1 (p :: r))) else (160, { st' with L := (openZ st'.s st'.zs (needP p) st'.L).2.2 })) := rfl
          have HOI : Hid ((openZ st'.s st'.zs (needP p) st'.L).2.1 = true → 0 < frontN st' (openZ st'.s st'.zs (needP p) st'.L).1 (p :: r) ∧ frontN st' (openZ st'.s st'.zs (needP p) st'.L).1 (p :: r) ≤ m ∧ roomZ st'.s st'.zs (openZ st'.s st'.zs (needP p) st'.L).1 ≤ 4096 ∧ 1 ≤ roomZ st'.s st'.zs (openZ st'.s st'.zs (needP p) st'.L).1) := fun hb => by
            obtain ⟨i, h1, h2, h3, h4⟩ := openZ_in st'.s st'.zs (needP p) _ st'.L rfl hb
            rw [h1]
            have hle := (frN_le (p :: r) (roomI st'.s.b).toNat (roomZ st'.s st'.zs i - 1)).1
            have hzb := hv.wf.right.2.2.2.1
            refine ⟨front_pos hv.wf.right h4, by rw [hm1]; exact hle, by unfold roomZ; omega, ?_⟩
            have : 1 ≤ needP p := by unfold needP; split <;> omega
            omega
          generalize hoz : openZ st'.s st'.zs (needP p) st'.L = oz at HSt HF HOI
          obtain ⟨oa, ob, oL⟩ := oz
          simp only at HSt HF HOI
          generalize hfn : frontN st' oa (p :: r) = fn at HSt HF HOI
          have HM1 : Hid (m = r.length + 1) := hm1
          clear hcl hv hD ho hpw hX' hput hoz hfn hpts hm1
          cases ob with
          | false =>
            rw [if_neg (by decide)] at HF
            go_wp2_with (first
              | (go_at_call 72; refine HNe.out.mono ?_; rintro e w2 ⟨rfl, b2⟩)
              | (go_at_call 71; refine (HSt.out _ b2).mono ?_; rintro e w3 ⟨rfl, sv3, _⟩))
            go_ret
            rw [HM.out, HF.out]
            exact ⟨rfl, Sv.mono (Sv.next HSv.out.1 (HSv.out.2 _ b2) sv3) (by omega)⟩
          | true =>
            rw [if_pos rfl] at HF
            obtain ⟨hn0, hnm, hr1, hr2⟩ := HOI.out rfl
            obtain ⟨RZ, hRZ⟩ : ∃ RZ, RZ = roomZ st'.s st'.zs oa := ⟨_, rfl⟩
            rw [← hRZ] at hr1 hr2
            have hwr : IntKind.i64.wrap (RZ - 1) = RZ - 1 := by rw [IntKind.wrap_i64]; omega
            have hrm := room_of st.s.b
            have hsb := pslice_back (some ⟨b, off, none⟩) m cc' fn hnm
            rw [← hRZ, hbs] at HSt
            have HS2 : Hid (∀ w', Below wr.heap.size wr w' → Calls Tryz.prog 71 #[.pointer (some ⟨k.ps, 0, none⟩), .int .i64 (needP p)] w' fun e w3 => e = .returned (.tuple #[.int .i64 oa, .bool true]) ∧ Calls Tryz.prog 75 #[.pointer (some ⟨k.ps, 0, none⟩), .int .i64 oa] w3 fun e w4 => e = .returned (.int .i64 RZ) ∧ Calls Tryz.prog 73 #[.slice (some ⟨b, off, none⟩) m cc', .int .i64 (roomI st.s.b), .int .i64 (RZ - 1)] w4 fun e w5 => e = .returned (.slice (some ⟨b, off, none⟩) fn cc') ∧ Calls Tryz.prog 76 #[.pointer (some ⟨k.ps, 0, none⟩), .int .i64 oa, .slice (some ⟨b, off, none⟩) fn cc'] w5 fun e w6 => e = .returned (.tuple #[]) ∧ Sv D' w' k (writeM { st' with L := oL } oa ((p :: r).take fn)) (c' + fn) w6) := fun w' hb => (HSt.out w' hb).mono (fun e w3 h => ⟨h.1, h.2.2 rfl⟩)
            clear hRZ HOI HSt
            go_wp2_with (first
              | (go_at_call 72; refine HNe.out.mono ?_; rintro e w2 ⟨rfl, b2⟩)
              | (go_at_call 71; refine (HS2.out _ b2).mono ?_; rintro e w3 ⟨rfl, hst2⟩)
              | (go_at_call 74; refine (hrm _).mono ?_; rintro e w9 ⟨rfl, rfl⟩)
              | (go_at_call 75; refine hst2.mono ?_; rintro e w4 ⟨rfl, hst3⟩)
              | (go_at_call 73; refine hst3.mono ?_; rintro e w5 ⟨rfl, hst4⟩)
              | (go_at_call 76; refine hst4.mono ?_; rintro e w6 ⟨rfl, sv6⟩))
            have H6 : Hid (Sv D W k (writeM { st' with L := oL } oa ((p :: r).take fn)) (c' + fn) w6) := Sv.next HSv.out.1 (HSv.out.2 _ b2) sv6
            have HW6 : Hid (PtsIn X W (kleft (some ⟨b, off, none⟩) cc' fn) (m - fn) ((p :: r).drop fn)) := HP.out.back fn hnm hmc
            clear sv6
            go_wp2
            go_roundw
            case rel => exact ⟨(p :: r).drop fn, kleft (some ⟨b, off, none⟩) cc' fn, m - fn, cc' - fn, f, writeM { st' with L := oL } oa ((p :: r).take fn), c' + fn, rfl, by omega, HW6.out, hss, by rw [List.length_drop]; simp only [List.length_cons] at hlf ⊢; omega, by omega, H6.out, by rw [← HF.out, ← HM.out]; unfold putM; rw [if_pos HO.out.1]⟩
            case measure => simp [lenOf]; omega
end
end Go.Proofs.YtncnkpnfmbgifaaGreat

/- What one call of Block and of heavy does; calls that are read. -/
namespace Go.Proofs.YtncnkpnfmbgifaaGreat
open Go.RowKit Go.Shelf
set_option linter.unusedVariables false
set_option maxRecDepth 4000

def blockB (S : Nat) (F : List Int) : List Int := F.take S ++ List.replicate (S - F.length) 0
theorem blockB_length (S : Nat) (F : List Int) : (blockB S F).length = S := by simp [blockB]; omega
def blockTo (S : Nat) (F : List Int) (j : Nat) : List Int := F.take j ++ List.replicate (S - j) 0
theorem blockTo_length {S : Nat} {F : List Int} {j : Nat} (h : j ≤ S) (h' : j ≤ F.length) : (blockTo S F j).length = S := by simp [blockTo]; omega
theorem blockTo_next {S : Nat} {F : List Int} {j : Nat} {x : Int} (h : j < S) (hx : F[j]? = some x) : (blockTo S F j).set j x = blockTo S F (j + 1) := by
 have hj := (List.getElem?_eq_some_iff.1 hx).1
 unfold blockTo
 rw [take_snoc hx, List.set_append_right _ _ (by simp; omega)]
 have e : j - (List.take j F).length = 0 := by simp; omega
 rw [e]
 obtain ⟨d, hd⟩ : ∃ d, S - j = d + 1 := ⟨S - j - 1, by omega⟩
 have e2 : S - (j + 1) = d := by omega
 rw [hd, e2, List.replicate_succ]
 simp
theorem blockTo_all {S : Nat} {F : List Int} {j : Nat} (h : j ≤ S) (h' : j ≤ F.length) (he : j = S ∨ j = F.length) : blockTo S F j = blockB S F := by
 unfold blockTo blockB
 rcases he with rfl | rfl
 ·have : j - F.length = 0 := by omega
  rw [this]; simp
 ·rw [List.take_of_length_le (Nat.le_refl _), List.take_of_length_le h]
theorem blockB_fits {S : Nat} {F : List Int} (h : ∀ z ∈ F, Fits8 z) : ∀ z ∈ blockB S F, Fits8 z := by
 intro z hz
 simp only [blockB, List.mem_append, List.mem_replicate] at hz
 rcases hz with hz | ⟨_, rfl⟩
 ·exact h z (List.mem_of_mem_take hz)
 ·unfold Fits8; omega

end Go.Proofs.YtncnkpnfmbgifaaGreat

/- What one call of the laws' Block and Blocks does. -/
namespace Go.Proofs.YtncnkpnfmbgifaaGreat
open Go.RowKit
set_option linter.unusedVariables false
set_option maxRecDepth 4000
def blkP (S : Nat) (p : Pt) : Pt := if p.x = true ∨ p.d.length % 7 = 6 then p else { p with d := blockB S p.d }
theorem blk_bin {w : World} {g n : Nat} {F : List Int} (h : Blk w g (u8s F) 5) (hn : F.length = n) (hf : ∀ z ∈ F, Fits8 z) (hm : n ≤ maxLen) : BIn w (some ⟨g, 0, none⟩) n F := by
 refine ⟨hn, hm, hf, .inr ⟨g, 0, rfl, fun i hi => ?_⟩⟩
 rw [Nat.zero_add, h.cell]
 simp [u8s, List.getD, show i < F.length by omega]
theorem Tryz.info_put : (Tryz.prog.info? 71).map (·.size) = some 4 := by kernel_rfl
set_option maxHeartbeats 4000000 in
theorem sblock_of (S : Nat) (p : Pt) (A : Option Addr) (L C : Nat) (W : World) (hb : BIn W A L p.d) (hS : S ≤ 10000) (hL : L ≤ 10000) : Calls Tryz.prog 188 #[.int .i64 (S : Nat), .agg #[.int .u32 p.t, .int .u64 p.b, .bool p.x, .slice A L C]] W fun e w' => ∃ A' L' C', e = .returned (.agg #[.int .u32 p.t, .int .u64 p.b, .bool p.x, .slice A' L' C']) ∧ BIn w' A' L' (blkP S p).d ∧ (A' = A ∧ L' = L ∧ C' = C ∨ ∃ q, A' = some ⟨q, 0, none⟩ ∧ W.heap.size ≤ q ∧ q < w'.heap.size ∧ L' = S ∧ C' = S) ∧ Below W.heap.size W w' := by
 by_cases hc : p.x = true ∨ p.d.length % 7 = 6
 ·have hp : blkP S p = p := by unfold blkP; rw [if_pos hc]
  rw [hp]
  have hLl : p.d.length = L := hb.1
  have HB : Hid (∀ X, Below W.heap.size W X → BIn X A L p.d) := fun X hX => hb.below hX
  have HW : Hid (∀ X, X = (W.alloc (.cells #[.int .u32 p.t, .int .u64 p.b, .bool p.x, .slice A L C] 71)).alloc (.cells #[.int .u32 p.t, .int .u64 p.b, .bool p.x, .slice A L C] 71) → Blk X (W.heap.size + 1) [.int .u32 p.t, .int .u64 p.b, .bool p.x, .slice A L C] 71 ∧ Below W.heap.size W X) := by
   rintro X rfl
   exact ⟨Blk.new' (by simp) rfl, ((Below.refl _ _).alloc (Nat.le_refl _) _).alloc (by simp) _⟩
  have fin : Hid (∀ X, Below W.heap.size W X → ∃ A' L' C', Ending.returned (.agg #[.int .u32 p.t, .int .u64 p.b, .bool p.x, .slice A L C]) = .returned (.agg #[.int .u32 p.t, .int .u64 p.b, .bool p.x, .slice A' L' C']) ∧ BIn X A' L' p.d ∧ (A' = A ∧ L' = L ∧ C' = C ∨ ∃ q, A' = some ⟨q, 0, none⟩ ∧ W.heap.size ≤ q ∧ q < X.heap.size ∧ L' = S ∧ C' = S) ∧ Below W.heap.size W X) := fun X hX => ⟨A, L, C, rfl, HB.out X hX, .inl ⟨rfl, rfl, rfl⟩, hX⟩
  clear hb
  cases hx : p.x with
  | true =>
   rw [hx] at HW fin
   clear hc hp
   go_enter Tryz.func188, Tryz.ntmps188
   go_wp2_with fail
   exact bodyPost_ret (results_cell_one (p := 4) (ty := 71) rfl _ _ _ _ _ _ rfl (HW.out _ rfl).1 Tryz.underlying71 rfl Tryz.info_put) rfl (fin.out _ (HW.out _ rfl).2)
  | false =>
   rw [hx] at HW fin
   have h6 : (L : Int) % 7 = 6 := by rcases hc with h | h; rw [hx] at h; cases h; omega
   have h6' : Int.tmod (L : Int) 7 = 6 := by rw [Int.tmod_eq_emod_of_nonneg (by omega)]; exact h6
   clear hc hp
   go_enter Tryz.func188, Tryz.ntmps188
   go_wp2_with fail
   exact bodyPost_ret (results_cell_one (p := 4) (ty := 71) rfl _ _ _ _ _ _ rfl (HW.out _ rfl).1 Tryz.underlying71 rfl Tryz.info_put) rfl (fin.out _ (HW.out _ rfl).2)
 ·have hp : (blkP S p).d = blockB S p.d := by unfold blkP; rw [if_neg hc]
  rw [hp]
  have hLl : p.d.length = L := hb.1
  have hx : p.x = false := by cases h : p.x; rfl; exact (hc (.inl h)).elim
  have h6 : (L : Int) % 7 ≠ 6 := fun e => hc (.inr (by omega))
  have h6' : Int.tmod (L : Int) 7 ≠ 6 := by rw [Int.tmod_eq_emod_of_nonneg (by omega)]; exact h6
  have h6b : (Int.tmod (L : Int) 7 == 6) = false := by simp [h6']
  have h6c : ((L : Int) % 7 == 6) = false := by simp [h6]
  generalize hF : p.d = F at hb hLl
  have hmk := run_make_row' (P := Tryz.prog) 43 5 (.int .u8 0) 1 Tryz.underlying43 Tryz.zero_u8 rfl .i64 .i64 S (by omega) (by omega)
  obtain ⟨q, hq⟩ : ∃ q, q = W.heap.size := ⟨_, rfl⟩
  have HW : Hid (∀ X, X = ((W.alloc (.cells #[.int .u32 p.t, .int .u64 p.b, .bool false, .slice A L C] 71)).alloc (.cells #[.int .u32 0, .int .u64 0, .bool false, .slice none 0 0] 71)).alloc (.cells (madeCells #[.int .u8 0] S) 5) → Blk X q [.int .u32 p.t, .int .u64 p.b, .bool false, .slice A L C] 71 ∧ Blk X (q + 1) [.int .u32 0, .int .u64 0, .bool false, .slice none 0 0] 71 ∧ Blk X (q + 1 + 1) (u8s (blockTo S F 0)) 5 ∧ Below W.heap.size W X) := by
   rintro X rfl
   have e1 : (W.alloc (.cells #[.int .u32 p.t, .int .u64 p.b, .bool false, .slice A L C] 71)).heap.size = q + 1 := by simp [hq]
   have e2 : ((W.alloc (.cells #[.int .u32 p.t, .int .u64 p.b, .bool false, .slice A L C] 71)).alloc (.cells #[.int .u32 0, .int .u64 0, .bool false, .slice none 0 0] 71)).heap.size = q + 1 + 1 := by simp [hq]
   have b3 := made_bytes S ((W.alloc (.cells #[.int .u32 p.t, .int .u64 p.b, .bool false, .slice A L C] 71)).alloc (.cells #[.int .u32 0, .int .u64 0, .bool false, .slice none 0 0] 71))
   rw [e2] at b3
   exact ⟨((Blk.new' hq.symm rfl).alloc _).alloc _, (Blk.new' e1 rfl).alloc _, by simpa [blockTo] using b3, (((Below.refl _ _).alloc (Nat.le_refl _) _).alloc (by simp) _).alloc (by simp; omega) _⟩
  have H : Hid (BIn W A L F ∧ q = W.heap.size ∧ F.length = L) := ⟨hb, hq, hLl⟩
  rw [hx]
  clear hc hb hp hx hF
  go_enter Tryz.func188, Tryz.ntmps188
  go_wp2_with fail
  rw [← hq]
  generalize hX : World.alloc (World.alloc (World.alloc W _) _) _ = X
  have H0 := HW.out X hX.symm
  have HX : Hid (Blk X q [.int .u32 p.t, .int .u64 p.b, .bool false, .slice A L C] 71 ∧ Blk X (q + 1) [.int .u32 0, .int .u64 0, .bool false, .slice none 0 0] 71 ∧ Blk X (q + 1 + 1) (u8s (blockTo S F 0)) 5 ∧ Below W.heap.size W X) := H0
  clear hX HW H0 hq hmk
  go_loopw [6] (fun x wr => ∃ j : Nat, x = .int .i64 j ∧ j ≤ S ∧ j ≤ L ∧ Blk wr q [.int .u32 p.t, .int .u64 p.b, .bool false, .slice A L C] 71 ∧ Blk wr (q + 1) [.int .u32 0, .int .u64 0, .bool false, .slice none 0 0] 71 ∧ Blk wr (q + 1 + 1) (u8s (blockTo S F j)) 5 ∧ Below W.heap.size W wr) (fun x wr => S - (intOf x).toNat)
  case atStart => exact ⟨0, rfl, Nat.zero_le _, Nat.zero_le _, HX.out⟩
  case round =>
   obtain ⟨j, rfl, hj, hjn, hbp, hbr, hbk, hbl⟩ := hrel
   have x3 : wr.cell? ⟨q, 3, none⟩ = some (.slice A L C) := hbp.cell 3
   by_cases h12 : j < S ∧ j < L
   ·obtain ⟨h1, h2⟩ := h12
    obtain ⟨x, hx⟩ : ∃ x, F[j]? = some x := ⟨F[j]'(by rw [H.out.2.2]; exact h2), by simp⟩
    have hin := H.out.1.below hbl
    obtain ⟨b, off, rfl, hc⟩ := hin.2.2.2.resolve_left (by omega)
    have cx := hc j h2
    have ex : F.getD j 0 = x := by simp [List.getD, hx]
    rw [ex] at cx
    have h1' : (j : Int) < S := by omega
    have h2' : (j : Int) < L := by omega
    have hw : IntKind.i64.wrap ((j : Int) + 1) = (j : Int) + 1 := by rw [IntKind.wrap_i64]; omega
    have cq : (wr.cell? ⟨q + 1 + 1, j, none⟩) = some (.int .u8 ((blockTo S F j).getD j 0)) := by
     rw [hbk.cell]
     have : j < (blockTo S F j).length := by rw [blockTo_length (by omega) (by rw [H.out.2.2]; omega)]; exact h1
     simp [u8s, List.getD, this]
    have fq := hbk.frozen j
    have hqW := H.out.2.1
    have n1 : q ≠ q + 1 + 1 := by omega
    have n2 : q + 1 ≠ q + 1 + 1 := by omega
    have HN : Hid (Blk (wr.setCell ⟨q + 1 + 1, j, none⟩ (.int .u8 x)) q [.int .u32 p.t, .int .u64 p.b, .bool false, .slice (some ⟨b, off, none⟩) L C] 71 ∧ Blk (wr.setCell ⟨q + 1 + 1, j, none⟩ (.int .u8 x)) (q + 1) [.int .u32 0, .int .u64 0, .bool false, .slice none 0 0] 71 ∧ Blk (wr.setCell ⟨q + 1 + 1, j, none⟩ (.int .u8 x)) (q + 1 + 1) (u8s (blockTo S F (j + 1))) 5 ∧ Below W.heap.size W (wr.setCell ⟨q + 1 + 1, j, none⟩ (.int .u8 x))) := by
     refine ⟨hbp.set_other n1 _, hbr.set_other n2 _, ?_, hbl.setCell (p := ⟨q + 1 + 1, j, none⟩) (by show W.heap.size ≤ q + 1 + 1; omega) _⟩
     have := hbk.set j (.int .u8 x)
     rw [← blockTo_next h1 hx]
     simpa [u8s, List.map_set] using this
    generalize (blockTo S F j).getD j 0 = y at cq
    clear hbk hbl hin hc ex hbp hbr hqW n1 n2
    go_wp2
    all_goals (
     go_roundw
     case rel => exact ⟨j + 1, by simp, by omega, by omega, HN.out⟩
     case measure => simp [intOf]; omega)
   ·have e := blockTo_all (S := S) (F := F) hj (by rw [H.out.2.2]; exact hjn) (by rw [H.out.2.2]; omega)
    rw [e] at hbk
    have HN : Hid (Blk wr q [.int .u32 p.t, .int .u64 p.b, .bool false, .slice A L C] 71 ∧ Blk wr (q + 1) [.int .u32 0, .int .u64 0, .bool false, .slice none 0 0] 71 ∧ Blk wr (q + 1 + 1) (u8s (blockB S F)) 5 ∧ Below W.heap.size W wr) := ⟨hbp, hbr, hbk, hbl⟩
    have y0 := hbp.cell 0
    have y1 := hbp.cell 1
    have y2 := hbp.cell 2
    have f0 := hbp.frozen 3
    have z0 := hbr.cell 0
    have z1 := hbr.cell 1
    have z2 := hbr.cell 2
    have z3 := hbr.cell 3
    have g0 := hbr.frozen 0
    have g1 := hbr.frozen 1
    have g2 := hbr.frozen 2
    have g3 := hbr.frozen 3
    have n1 : q ≠ q + 1 := by omega
    have n2 : q + 1 ≠ q := by omega
    simp only [List.getElem?_cons_zero, List.getElem?_cons_succ] at y0 y1 y2 z0 z1 z2 z3
    have hk : S ≤ j ∨ (j < S ∧ L ≤ j) := by omega
    clear hbp hbr hbk hbl e h12
    rcases hk with hk | ⟨hk1, hk2⟩
    ·have hk' : ¬ (j : Int) < S := by omega
     go_wp2
     have hfin := ((((HN.out.2.1.set_other (a := ⟨q, 3, none⟩) n2 (.slice (some ⟨q + 1 + 1, 0, none⟩) S S)).set 0 (.int .u32 p.t)).set 1 (.int .u64 p.b)).set 2 (.bool false)).set 3 (.slice (some ⟨q + 1 + 1, 0, none⟩) S S)
     have hqW := H.out.2.1
     have hbl : Below W.heap.size W (((((wr.setCell ⟨q, 3, none⟩ (.slice (some ⟨q + 1 + 1, 0, none⟩) S S)).setCell ⟨q + 1, 0, none⟩ (.int .u32 p.t)).setCell ⟨q + 1, 1, none⟩ (.int .u64 p.b)).setCell ⟨q + 1, 2, none⟩ (.bool false)).setCell ⟨q + 1, 3, none⟩ (.slice (some ⟨q + 1 + 1, 0, none⟩) S S)) := by
      repeat refine Below.setCell ?_ (by simp; omega) _
      exact HN.out.2.2.2
     have hbk := (((((HN.out.2.2.1.set_other (a := ⟨q, 3, none⟩) (by show q + 1 + 1 ≠ q; omega) (.slice (some ⟨q + 1 + 1, 0, none⟩) S S)).set_other (a := ⟨q + 1, 0, none⟩) (by show q + 1 + 1 ≠ q + 1; omega) (.int .u32 p.t)).set_other (a := ⟨q + 1, 1, none⟩) (by show q + 1 + 1 ≠ q + 1; omega) (.int .u64 p.b)).set_other (a := ⟨q + 1, 2, none⟩) (by show q + 1 + 1 ≠ q + 1; omega) (.bool false)).set_other (a := ⟨q + 1, 3, none⟩) (by show q + 1 + 1 ≠ q + 1; omega) (.slice (some ⟨q + 1 + 1, 0, none⟩) S S))
     have hbin : BIn (((((wr.setCell ⟨q, 3, none⟩ (.slice (some ⟨q + 1 + 1, 0, none⟩) S S)).setCell ⟨q + 1, 0, none⟩ (.int .u32 p.t)).setCell ⟨q + 1, 1, none⟩ (.int .u64 p.b)).setCell ⟨q + 1, 2, none⟩ (.bool false)).setCell ⟨q + 1, 3, none⟩ (.slice (some ⟨q + 1 + 1, 0, none⟩) S S)) (some ⟨q + 1 + 1, 0, none⟩) S (blockB S F) := blk_bin hbk (blockB_length S F) (blockB_fits H.out.1.2.2.1) (by unfold maxLen; omega)
     exact bodyPost_ret (results_cell_one (p := 4) (ty := 71) rfl _ _ _ _ _ _ rfl hfin Tryz.underlying71 rfl Tryz.info_put) rfl ⟨_, _, _, rfl, hbin, .inr ⟨_, rfl, by omega, hbk.lt, rfl, rfl⟩, hbl⟩
    ·have hk' : (j : Int) < S := by omega
     have hk2' : ¬ (j : Int) < L := by omega
     go_wp2
     have hfin := ((((HN.out.2.1.set_other (a := ⟨q, 3, none⟩) n2 (.slice (some ⟨q + 1 + 1, 0, none⟩) S S)).set 0 (.int .u32 p.t)).set 1 (.int .u64 p.b)).set 2 (.bool false)).set 3 (.slice (some ⟨q + 1 + 1, 0, none⟩) S S)
     have hqW := H.out.2.1
     have hbl : Below W.heap.size W (((((wr.setCell ⟨q, 3, none⟩ (.slice (some ⟨q + 1 + 1, 0, none⟩) S S)).setCell ⟨q + 1, 0, none⟩ (.int .u32 p.t)).setCell ⟨q + 1, 1, none⟩ (.int .u64 p.b)).setCell ⟨q + 1, 2, none⟩ (.bool false)).setCell ⟨q + 1, 3, none⟩ (.slice (some ⟨q + 1 + 1, 0, none⟩) S S)) := by
      repeat refine Below.setCell ?_ (by simp; omega) _
      exact HN.out.2.2.2
     have hbk := (((((HN.out.2.2.1.set_other (a := ⟨q, 3, none⟩) (by show q + 1 + 1 ≠ q; omega) (.slice (some ⟨q + 1 + 1, 0, none⟩) S S)).set_other (a := ⟨q + 1, 0, none⟩) (by show q + 1 + 1 ≠ q + 1; omega) (.int .u32 p.t)).set_other (a := ⟨q + 1, 1, none⟩) (by show q + 1 + 1 ≠ q + 1; omega) (.int .u64 p.b)).set_other (a := ⟨q + 1, 2, none⟩) (by show q + 1 + 1 ≠ q + 1; omega) (.bool false)).set_other (a := ⟨q + 1, 3, none⟩) (by show q + 1 + 1 ≠ q + 1; omega) (.slice (some ⟨q + 1 + 1, 0, none⟩) S S))
     have hbin : BIn (((((wr.setCell ⟨q, 3, none⟩ (.slice (some ⟨q + 1 + 1, 0, none⟩) S S)).setCell ⟨q + 1, 0, none⟩ (.int .u32 p.t)).setCell ⟨q + 1, 1, none⟩ (.int .u64 p.b)).setCell ⟨q + 1, 2, none⟩ (.bool false)).setCell ⟨q + 1, 3, none⟩ (.slice (some ⟨q + 1 + 1, 0, none⟩) S S)) (some ⟨q + 1 + 1, 0, none⟩) S (blockB S F) := blk_bin hbk (blockB_length S F) (blockB_fits H.out.1.2.2.1) (by unfold maxLen; omega)
     exact bodyPost_ret (results_cell_one (p := 4) (ty := 71) rfl _ _ _ _ _ _ rfl hfin Tryz.underlying71 rfl Tryz.info_put) rfl ⟨_, _, _, rfl, hbin, .inr ⟨_, rfl, by omega, hbk.lt, rfl, rfl⟩, hbl⟩
end Go.Proofs.YtncnkpnfmbgifaaGreat
