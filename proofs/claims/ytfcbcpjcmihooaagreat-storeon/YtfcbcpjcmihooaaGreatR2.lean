/- Texts of this seat, one behind the other: StOb. -/
import Derived.Test.YtfcbcpjcmihooaaGreatQ18
import Derived.Test.YtfcbcpjcmihooaaGreatR1
import Derived.BigRegion
/- On of the document's store, with lists. -/
namespace Go.Proofs.YtfcbcpjcmihooaaGreat
open Go.RowKit
set_option linter.unusedVariables false
set_option maxRecDepth 4000
theorem Sd.far {B : Nat} {R : Nat → Prop} {W V W' : World} {k : Rs} {st : St} (h : Sd R V k st W') (hb : Below W.heap.size W V) (hB : B ≤ W.heap.size) (hR : ∀ x, R x → B ≤ x) : Out (fun j => B ≤ j) W W' := by
  obtain ⟨D, M, _, _, ho⟩ := h
  have h1 : Out (fun j => B ≤ j) W V := below_out _ hb
  exact h1.trans ho (fun j hj => .inl (hR j hj))
theorem onP_len (s : Sh) (zs : List Zn) (q : Int) {l : List Pl} (hf : ∀ x ∈ l, FitsP x) : ∀ i, i ≤ l.length → Good (onP s zs q (l.take i)).S ∧ (onP s zs q (l.take i)).S.length ≤ i := by
  intro i
  induction i with
  | zero => intro _; exact ⟨good_nil, Nat.le_refl _⟩
  | succ i ih =>
    intro hi
    obtain ⟨h1, h2⟩ := ih (by omega)
    obtain ⟨x, hx⟩ : ∃ x, l[i]? = some x := ⟨l[i], by simp [show i < l.length by omega]⟩
    rw [onPnext hx]
    have := putS_len h1 x
    exact ⟨h1.put (hf x (List.mem_of_getElem? hx)), by show (putS _ x).length ≤ _; omega⟩
set_option maxHeartbeats 4000000 in
theorem don_of {O : Nat → Prop} {W : World} {p : Nat} {s : Sh} {zs : List Zn} (hd : Dv 142 O W p s zs) (hw : Wf s zs) (q : Int) (hq : FitsU q) (B : Nat) (hB : B ≤ W.heap.size) (hO : ∀ x, O x → B ≤ x) (a1 : Option Addr) (n1 c1 : Nat) (l : List Pl) (hl : ∀ V, Out (fun j => B ≤ j) W V → KIn V a1 n1 l) (hn1 : n1 ≤ 1000) (a2 : Option Addr) (n2 c2 : Nat) (f : List Int) (hf : ∀ V, Out (fun j => B ≤ j) W V → NIn .i64 V a2 n2 f) (hn2 : n2 ≤ 1000) :
    Calls Tryz.prog 47 #[.pointer (some ⟨p, 0, none⟩), .int .u64 q, .slice a1 n1 c1, .slice a2 n2 c2, .int .i64 0] W fun e w' => ∃ (k : Rs) (V : World) (D M : Nat → Prop), e = .returned (.pointer (some ⟨k.ps, 0, none⟩)) ∧ Below W.heap.size W V ∧ Sd (SdO D M k) V k (onG s zs q l f) w' ∧ ∀ x, SdO D M k x → O x ∨ W.heap.size ≤ x := by
  obtain ⟨N, hN⟩ : ∃ N : Nat, s.z = N := ⟨s.z.toNat, by have := hw.right.1; omega⟩
  have hN1 : 6 ≤ N ∧ N ≤ 256 := by have := hw.right.1; have := hw.right.2.1; omega
  have H : Hid (Dv 142 O W p s zs ∧ Wf s zs ∧ s.z = (N : Int) ∧ FitsU q) := ⟨hd, hw, hN, hq⟩
  have HL : Hid ((∀ V, Out (fun j => B ≤ j) W V → KIn V a1 n1 l) ∧ (∀ V, Out (fun j => B ≤ j) W V → NIn .i64 V a2 n2 f) ∧ (∀ x, O x → B ≤ x) ∧ B ≤ W.heap.size) := ⟨hl, hf, hO, hB⟩
  have hl1 := (hl W (Out.refl _ _)).1
  have hf1 := (hf W (Out.refl _ _)).1
  have hmk := run_make_row' (P := Tryz.prog) 94 40 (.int .u64 0) 8 Tryz.underlying94 Tryz.zero_u64s rfl .i64 .i64 N (by omega) (by omega)
  have HX : Hid (∀ Y, Below W.heap.size W Y → Y.cell? ⟨p, 0, none⟩ = some (.int .i64 (N : Int)) ∧ Y.cell? ⟨p, 1, none⟩ = some (.int .i64 s.zb) ∧ Y.cell? ⟨p, 2, none⟩ = some (.int .i64 s.b) ∧ Y.cell? ⟨p, 3, none⟩ = some (.int .i64 s.r)) := fun Y hY => by
    obtain ⟨g, c, vs, hv⟩ := hd
    have hc := (hv.under hY).pcell
    rw [hN] at hc
    exact ⟨hc.1, hc.2.1, hc.2.2.1, hc.2.2.2.1⟩
  obtain ⟨x0, x1, x2, x3⟩ := HX.out W (Below.refl _ _)
  have k0 : ∀ o, (W.alloc o).cell? ⟨p, 0, none⟩ = some (.int .i64 (N : Int)) := fun o => (HX.out _ ((Below.refl _ _).alloc (Nat.le_refl _) o)).1
  have k1 : ∀ o, (W.alloc o).cell? ⟨p, 1, none⟩ = some (.int .i64 s.zb) := fun o => (HX.out _ ((Below.refl _ _).alloc (Nat.le_refl _) o)).2.1
  have k2 : ∀ o, (W.alloc o).cell? ⟨p, 2, none⟩ = some (.int .i64 s.b) := fun o => (HX.out _ ((Below.refl _ _).alloc (Nat.le_refl _) o)).2.2.1
  have k3 : ∀ o, (W.alloc o).cell? ⟨p, 3, none⟩ = some (.int .i64 s.r) := fun o => (HX.out _ ((Below.refl _ _).alloc (Nat.le_refl _) o)).2.2.2
  have HG : Hid (∀ Y, Below W.heap.size W Y → Calls Tryz.prog 103 #[.agg #[.int .i64 (N : Int), .int .i64 s.zb, .int .i64 s.b, .int .i64 s.r]] Y fun e Z => ∃ pg gg gc, e = .returned (.pointer (some ⟨pg, 0, none⟩)) ∧ (SegR Z pg gg gc s (newZ s.z.toNat) ∧ Y.heap.size ≤ pg ∧ Y.heap.size ≤ gg ∧ Below Y.heap.size Y Z ∧ Below W.heap.size W Z) ∧ Z.cell? ⟨p, 0, none⟩ = some (.int .i64 (N : Int)) ∧ (∀ o, (Z.alloc o).cell? ⟨p, 0, none⟩ = some (.int .i64 (N : Int)))) := fun Y hY => by
    have := dgNew_of s Y (by have := H.out.2.1.right.1; omega)
    rw [show shL s = [.int .i64 (N : Int), .int .i64 s.zb, .int .i64 s.b, .int .i64 s.r] by unfold shL; rw [H.out.2.2.1]] at this
    refine this.mono ?_
    rintro e Z (⟨hr, _⟩ | ⟨_, pg, gg, gc, rfl, h1, h2, h3, h4⟩)
    · exact (hr H.out.2.1.right).elim
    · have hb := hY.trans (h4.mono hY.size)
      exact ⟨pg, gg, gc, rfl, ⟨h1, h2, h3, h4, hb⟩, (HX.out Z hb).1, fun o => (HX.out _ (hb.alloc hb.size o)).1⟩
  have HM : Hid (∀ Y, Below W.heap.size W Y → Calls Tryz.prog 104 #[] Y fun e Z => e = .returned (.pointer (some ⟨Y.heap.size, 0, none⟩)) ∧ (Blk Z Y.heap.size [.slice none 0 0] 170 ∧ Below Y.heap.size Y Z ∧ Below W.heap.size W Z) ∧ Z.cell? ⟨p, 0, none⟩ = some (.int .i64 (N : Int)) ∧ (∀ o, (Z.alloc o).cell? ⟨p, 0, none⟩ = some (.int .i64 (N : Int)))) := fun Y hY => by
    refine (dmNew0_of Y).mono ?_
    rintro e Z ⟨rfl, h1, h2⟩
    have hb := hY.trans (h2.mono hY.size)
    exact ⟨rfl, ⟨h1, h2, hb⟩, (HX.out Z hb).1, fun o => (HX.out _ (hb.alloc hb.size o)).1⟩
  clear hd hw hN hq hl hf hO hB
  go_enter Tryz.func47, Tryz.ntmps47
  go_wp2_with fail
  go_cut [11] (fun v X => ∃ k : Rs, v = .pointer (some ⟨k.ps, 0, none⟩) ∧ SdV (fun x => O x ∧ x < W.heap.size) (fun _ => False) X k (newSt s zs q 0) ∧ Below W.heap.size W X ∧ ∀ x, k.has x → W.heap.size ≤ x)
  case first =>
    go_region_law (first
      | (go_simp; go_at_call 103; refine (HG.out _ (by first | exact (Below.refl _ _).drew | exact ((Below.refl _ _).alloc (Nat.le_refl _) _).drew)).mono ?_; rintro e V2 ⟨pg, gg, gc, rfl, sg2, y0, y0a⟩)
      | (go_simp; go_at_call 104; refine (HM.out _ (by first | exact sg2.2.2.2.2 | exact sg2.2.2.2.2.alloc sg2.2.2.2.2.size _)).mono ?_; rintro e V3 ⟨rfl, lm3, z0, z0a⟩))
    all_goals (
      have hz : (s.z.toNat : Int) = s.z := by rw [H.out.2.2.1]; simp
      have hzN : s.z.toNat = N := by rw [H.out.2.2.1]; simp
      have g1 := sg2.2.1
      have g2 := sg2.2.2.1
      try simp at g1 g2
      first
      | (
        have q3 := lm3.2.1.size
        have q9 := sg2.2.2.2.2.size
        have hpl : V2.heap.size < V3.heap.size := lm3.1.lt
        have hb : Below W.heap.size W ((V3.alloc (.cells (madeCells #[.int .u64 0] N) 40)).alloc (.cells #[.pointer (some ⟨p, 0, none⟩), .pointer (some ⟨pg, 0, none⟩), .pointer (some ⟨V2.heap.size, 0, none⟩), .int .u64 q, .slice (some ⟨V3.heap.size, 0, none⟩) N N, .int .i64 0] 102)) := (lm3.2.2.alloc (by omega) _).alloc (by simp; omega) _
        have PK : Hid (SdV (fun x => O x ∧ x < W.heap.size) (fun _ => False) ((V3.alloc (.cells (madeCells #[.int .u64 0] N) 40)).alloc (.cells #[.pointer (some ⟨p, 0, none⟩), .pointer (some ⟨pg, 0, none⟩), .pointer (some ⟨V2.heap.size, 0, none⟩), .int .u64 q, .slice (some ⟨V3.heap.size, 0, none⟩) N N, .int .i64 0] 102)) ⟨V3.heap.size + 1, p, pg, gg, gc, V2.heap.size, V3.heap.size⟩ (newSt s zs q 0) ∧ Below W.heap.size W ((V3.alloc (.cells (madeCells #[.int .u64 0] N) 40)).alloc (.cells #[.pointer (some ⟨p, 0, none⟩), .pointer (some ⟨pg, 0, none⟩), .pointer (some ⟨V2.heap.size, 0, none⟩), .int .u64 q, .slice (some ⟨V3.heap.size, 0, none⟩) N N, .int .i64 0] 102)) ∧ ∀ x, Rs.has ⟨V3.heap.size + 1, p, pg, gg, gc, V2.heap.size, V3.heap.size⟩ x → W.heap.size ≤ x) := by
          refine ⟨sdv_made (k := ⟨V3.heap.size + 1, p, pg, gg, gc, V2.heap.size, V3.heap.size⟩) H.out.1 H.out.2.1 hb H.out.2.2.2 rfl hz ?_ ?_ ?_ ?_ (by show W.heap.size ≤ pg; omega) (by show W.heap.size ≤ gg; omega) (by show W.heap.size ≤ V2.heap.size; omega) (by show W.heap.size ≤ V3.heap.size; omega) (by show W.heap.size ≤ V3.heap.size + 1; omega), hb, ?_⟩
          · exact ((sg2.1.under lm3.2.1).under ((Below.refl _ _).alloc (Nat.le_refl _) _)).under ((Below.refl _ _).alloc (Nat.le_refl _) _)
          · exact (lm3.1.alloc _).alloc _
          · rw [hzN]; exact (made_u64 N V3).alloc _
          · rw [hzN]; exact Blk.new' (by simp) rfl
          · rintro x (rfl | rfl | rfl | rfl | rfl) <;> (try simp only) <;> omega
        generalize World.alloc _ (.cells #[.pointer (some ⟨p, 0, none⟩), .pointer (some ⟨pg, 0, none⟩), .pointer (some ⟨V2.heap.size, 0, none⟩), .int .u64 q, .slice (some ⟨V3.heap.size, 0, none⟩) N N, .int .i64 0] 102) = V9 at PK ⊢
        generalize V3.heap.size + 1 = ps at PK ⊢
        go_wp2_with fail
        go_meet
        case rel => exact ⟨_, rfl, PK.out.1, PK.out.2.1, PK.out.2.2⟩)
      | (
        have lmb : Below (V2.heap.size + 1) (V2.alloc (.cells (madeCells #[.int .u64 0] N) 40)) V3 := by have := lm3.2.1; simpa using this
        have e3 : Below V2.heap.size V2 V3 := ((Below.refl _ _).alloc (Nat.le_refl _) _).trans (lmb.mono (by omega))
        have q3 := e3.size
        have q9 := sg2.2.2.2.2.size
        have hm3 : Blk V3 (V2.heap.size + 1) [.slice none 0 0] 170 := by have := lm3.1; simpa using this
        have hpl : V2.heap.size + 1 < V3.heap.size := hm3.lt
        have hb : Below W.heap.size W (V3.alloc (.cells #[.pointer (some ⟨p, 0, none⟩), .pointer (some ⟨pg, 0, none⟩), .pointer (some ⟨V2.heap.size + 1, 0, none⟩), .int .u64 q, .slice (some ⟨V2.heap.size, 0, none⟩) N N, .int .i64 0] 102)) := lm3.2.2.alloc (by omega) _
        have PK : Hid (SdV (fun x => O x ∧ x < W.heap.size) (fun _ => False) (V3.alloc (.cells #[.pointer (some ⟨p, 0, none⟩), .pointer (some ⟨pg, 0, none⟩), .pointer (some ⟨V2.heap.size + 1, 0, none⟩), .int .u64 q, .slice (some ⟨V2.heap.size, 0, none⟩) N N, .int .i64 0] 102)) ⟨V3.heap.size, p, pg, gg, gc, V2.heap.size + 1, V2.heap.size⟩ (newSt s zs q 0) ∧ Below W.heap.size W (V3.alloc (.cells #[.pointer (some ⟨p, 0, none⟩), .pointer (some ⟨pg, 0, none⟩), .pointer (some ⟨V2.heap.size + 1, 0, none⟩), .int .u64 q, .slice (some ⟨V2.heap.size, 0, none⟩) N N, .int .i64 0] 102)) ∧ ∀ x, Rs.has ⟨V3.heap.size, p, pg, gg, gc, V2.heap.size + 1, V2.heap.size⟩ x → W.heap.size ≤ x) := by
          refine ⟨sdv_made (k := ⟨V3.heap.size, p, pg, gg, gc, V2.heap.size + 1, V2.heap.size⟩) H.out.1 H.out.2.1 hb H.out.2.2.2 rfl hz ?_ ?_ ?_ ?_ (by show W.heap.size ≤ pg; omega) (by show W.heap.size ≤ gg; omega) (by show W.heap.size ≤ V2.heap.size + 1; omega) (by show W.heap.size ≤ V2.heap.size; omega) (by show W.heap.size ≤ V3.heap.size; omega), hb, ?_⟩
          · exact (sg2.1.under e3).under ((Below.refl _ _).alloc (Nat.le_refl _) _)
          · exact hm3.alloc _
          · rw [hzN]; exact ((made_u64 N V2).below lmb (by omega)).alloc _
          · rw [hzN]; exact Blk.new' (by simp) rfl
          · rintro x (rfl | rfl | rfl | rfl | rfl) <;> (try simp only) <;> omega
        generalize World.alloc _ (.cells #[.pointer (some ⟨p, 0, none⟩), .pointer (some ⟨pg, 0, none⟩), .pointer (some ⟨V2.heap.size + 1, 0, none⟩), .int .u64 q, .slice (some ⟨V2.heap.size, 0, none⟩) N N, .int .i64 0] 102) = V9 at PK ⊢
        generalize V3.heap.size = ps at PK ⊢
        go_wp2_with fail
        go_meet
        case rel => exact ⟨_, rfl, PK.out.1, PK.out.2.1, PK.out.2.2⟩)
      | (
        have sgb : Below (W.heap.size + 1) (W.alloc (.cells (madeCells #[.int .u64 0] N) 40)) V2 := by have := (Below.refl _ _).drew.trans sg2.2.2.2.1; simpa using this
        have e3 := lm3.2.1
        have q3 := e3.size
        have q9 := sg2.2.2.2.2.size
        have q4 : W.heap.size + 1 ≤ V2.heap.size := by have := sgb.size; simpa using this
        have l2 : W.heap.size + 1 ≤ pg ∧ W.heap.size + 1 ≤ gg := by have h1 := sg2.2.1; have h2 := sg2.2.2.1; simpa using (And.intro h1 h2)
        have hpl : V2.heap.size < V3.heap.size := lm3.1.lt
        have hb : Below W.heap.size W (V3.alloc (.cells #[.pointer (some ⟨p, 0, none⟩), .pointer (some ⟨pg, 0, none⟩), .pointer (some ⟨V2.heap.size, 0, none⟩), .int .u64 q, .slice (some ⟨W.heap.size, 0, none⟩) N N, .int .i64 0] 102)) := lm3.2.2.alloc (by omega) _
        have PK : Hid (SdV (fun x => O x ∧ x < W.heap.size) (fun _ => False) (V3.alloc (.cells #[.pointer (some ⟨p, 0, none⟩), .pointer (some ⟨pg, 0, none⟩), .pointer (some ⟨V2.heap.size, 0, none⟩), .int .u64 q, .slice (some ⟨W.heap.size, 0, none⟩) N N, .int .i64 0] 102)) ⟨V3.heap.size, p, pg, gg, gc, V2.heap.size, W.heap.size⟩ (newSt s zs q 0) ∧ Below W.heap.size W (V3.alloc (.cells #[.pointer (some ⟨p, 0, none⟩), .pointer (some ⟨pg, 0, none⟩), .pointer (some ⟨V2.heap.size, 0, none⟩), .int .u64 q, .slice (some ⟨W.heap.size, 0, none⟩) N N, .int .i64 0] 102)) ∧ ∀ x, Rs.has ⟨V3.heap.size, p, pg, gg, gc, V2.heap.size, W.heap.size⟩ x → W.heap.size ≤ x) := by
          refine ⟨sdv_made (k := ⟨V3.heap.size, p, pg, gg, gc, V2.heap.size, W.heap.size⟩) H.out.1 H.out.2.1 hb H.out.2.2.2 rfl hz ?_ ?_ ?_ ?_ (by show W.heap.size ≤ pg; omega) (by show W.heap.size ≤ gg; omega) (by show W.heap.size ≤ V2.heap.size; omega) (by show W.heap.size ≤ W.heap.size; omega) (by show W.heap.size ≤ V3.heap.size; omega), hb, ?_⟩
          · exact (sg2.1.under e3).under ((Below.refl _ _).alloc (Nat.le_refl _) _)
          · exact lm3.1.alloc _
          · rw [hzN]; exact (((made_u64 N W).below sgb (by omega)).below e3 (by omega)).alloc _
          · rw [hzN]; exact Blk.new' (by simp) rfl
          · rintro x (rfl | rfl | rfl | rfl | rfl) <;> (try simp only) <;> omega
        generalize World.alloc _ (.cells #[.pointer (some ⟨p, 0, none⟩), .pointer (some ⟨pg, 0, none⟩), .pointer (some ⟨V2.heap.size, 0, none⟩), .int .u64 q, .slice (some ⟨W.heap.size, 0, none⟩) N N, .int .i64 0] 102) = V9 at PK ⊢
        generalize V3.heap.size = ps at PK ⊢
        go_wp2_with fail
        go_meet
        case rel => exact ⟨_, rfl, PK.out.1, PK.out.2.1, PK.out.2.2⟩))
  case rest =>
    obtain ⟨k, rfl, hk, hb, hh⟩ := hcut
    have PS : Hid (Sd (SdO (fun x => O x ∧ x < W.heap.size) (fun _ => False) k) wc k (onP s zs q (l.take 0)) wc ∧ Below W.heap.size W wc ∧ ∀ x, SdO (fun x => O x ∧ x < W.heap.size) (fun _ => False) k x → O x ∨ W.heap.size ≤ x) := ⟨Sd.start hk, hb, fun x hx => by rcases hx with h | h | h; exact .inl h.1; exact h.elim; exact .inr (hh x h)⟩
    clear hk hb hh x0 x1 x2 x3 k0 k1 k2 k3 HG HM HX
    obtain ⟨V9, hV9⟩ : ∃ V9 : World, V9 = wc := ⟨_, rfl⟩
    rw [← hV9] at PS ⊢
    clear hV9
    obtain ⟨ps, hps⟩ : ∃ ps, ps = k.ps := ⟨_, rfl⟩
    obtain ⟨pm, hpm⟩ : ∃ pm, pm = k.pm := ⟨_, rfl⟩
    obtain ⟨pg, hpg⟩ : ∃ pg, pg = k.pg := ⟨_, rfl⟩
    obtain ⟨lb, hlb⟩ : ∃ lb, lb = k.lb := ⟨_, rfl⟩
    have HK : Hid (ps = k.ps ∧ pm = k.pm ∧ pg = k.pg ∧ lb = k.lb) := ⟨hps, hpm, hpg, hlb⟩
    rw [← hps]
    clear hps hpm hpg hlb
    have HB : Hid (∀ x, SdO (fun x => O x ∧ x < W.heap.size) (fun _ => False) k x → B ≤ x) := fun x hx => by
      rcases PS.out.2.2 x hx with h | h
      · exact HL.out.2.2.1 x h
      · have := HL.out.2.2.2; omega
    have hfl := (HL.out.1 W (Out.refl _ _)).2.2.1
    have HLen : Hid (∀ i, i ≤ l.length → Good (onP s zs q (l.take i)).S ∧ (onP s zs q (l.take i)).S.length ≤ i) := onP_len s zs q hfl
    clear hfl
    go_wp2_with fail
    go_loopw [12] (fun x wr => ∃ i : Nat, x = .int .i64 i ∧ i ≤ n1 ∧ Sd (SdO (fun x => O x ∧ x < W.heap.size) (fun _ => False) k) V9 k (onP s zs q (l.take i)) wr) (fun x _ => n1 - (intOf x).toNat)
    case atStart => exact ⟨0, rfl, Nat.zero_le _, PS.out.1⟩
    case round =>
      obtain ⟨i, rfl, hi, sv⟩ := hrel
      have hfar : Out (fun j => B ≤ j) W wr := sv.far PS.out.2.1 HL.out.2.2.2 HB.out
      rcases Nat.lt_or_ge i n1 with hlt | hge
      · have hi' : (i : Int) < n1 := by omega
        have hwi : IntKind.i64.wrap ((i : Int) + 1) = (i : Int) + 1 := by rw [IntKind.wrap_i64]; omega
        obtain ⟨x, b, off, hx, hfx, rfl, y0, y1, y2, y3⟩ := (HL.out.1 wr hfar).at4 hlt
        have HY : Hid (∀ V c', Sd (SdO (fun x => O x ∧ x < W.heap.size) (fun _ => False) k) V9 k c' V → V.cell? ⟨b, off + i * 4, none⟩ = some (.int .u32 x.1.1) ∧ V.cell? ⟨b, off + i * 4 + 1, none⟩ = some (.int .u64 x.1.2) ∧ V.cell? ⟨b, off + i * 4 + 2, none⟩ = some (.int .i64 x.2.1) ∧ V.cell? ⟨b, off + i * 4 + 3, none⟩ = some (.int .i64 x.2.2)) := fun V c' hs => by
          obtain ⟨x', b', off', hx', _, hb', z0, z1, z2, z3⟩ := (HL.out.1 V (hs.far PS.out.2.1 HL.out.2.2.2 HB.out)).at4 hlt
          rw [hx] at hx'
          cases hx'
          cases hb'
          exact ⟨z0, z1, z2, z3⟩
        have HU : Hid (∀ V c', Sd (SdO (fun x => O x ∧ x < W.heap.size) (fun _ => False) k) V9 k c' V → V.cell? ⟨ps, 2, none⟩ = some (.pointer (some ⟨pm, 0, none⟩))) := fun V c' hs => by
          obtain ⟨D', M', hv, _, _⟩ := hs
          rw [HK.out.1, HK.out.2.1]
          exact hv.cells.2.2.1
        have HP : Hid (∀ V, Sd (SdO (fun x => O x ∧ x < W.heap.size) (fun _ => False) k) V9 k (onP s zs q (l.take i)) V → Calls Tryz.prog 105 #[.pointer (some ⟨pm, 0, none⟩), .agg #[.int .u32 x.1.1, .int .u64 x.1.2, .int .i64 x.2.1, .int .i64 x.2.2]] V fun e w' => (∃ v, e = .returned v) ∧ Sd (SdO (fun x => O x ∧ x < W.heap.size) (fun _ => False) k) V9 k (onP s zs q (l.take (i + 1))) w') := fun V hs => by
          obtain ⟨D', M', hv, hD', ho'⟩ := hs
          rw [HK.out.2.1]
          refine (dmPut_of k.pm _ x V hv.mp.d hfx (by have := (HLen.out i (by omega)).2; omega)).mono ?_
          rintro e w' ⟨rfl, h1, h2⟩
          refine ⟨⟨_, rfl⟩, ?_⟩
          rw [onPnext hx]
          exact Sd.next hD' ho' (hv.mpstep h1 h2)
        have HS : Hid (Sd (SdO (fun x => O x ∧ x < W.heap.size) (fun _ => False) k) V9 k (onP s zs q (l.take i)) wr) := sv
        have u2 := HU.out _ _ sv
        clear sv hx hfx hfar
        have HP2 := HP.out wr.drew (HS.out.under (Below.refl _ _).drew)
        go_wp2_with fail
        go_region_held3 (fun Y => Y.cell? ⟨ps, 2, none⟩ = some (.pointer (some ⟨pm, 0, none⟩)) ∧ Y.cell? ⟨b, off + i * 4, none⟩ = some (.int .u32 x.1.1) ∧ Y.cell? ⟨b, off + i * 4 + 1, none⟩ = some (.int .u64 x.1.2) ∧ Y.cell? ⟨b, off + i * 4 + 2, none⟩ = some (.int .i64 x.2.1) ∧ Y.cell? ⟨b, off + i * 4 + 3, none⟩ = some (.int .i64 x.2.2)) (first | exact ⟨u2, y0, y1, y2, y3⟩ | exact ⟨HU.out _ _ s7, HY.out _ _ s7⟩)
          (first | (go_simp; go_at_call 105; refine HP2.mono ?_; rintro e w7 ⟨⟨v7, rfl⟩, s7⟩))
        have H7 : Hid (Sd (SdO (fun x => O x ∧ x < W.heap.size) (fun _ => False) k) V9 k (onP s zs q (l.take (i + 1))) w7) := s7
        clear s7 y0 y1 y2 y3 u2 HP2
        go_wp2
        go_roundw
        case rel => exact ⟨i + 1, by simp, by omega, H7.out⟩
        case measure => simp [intOf]; omega
      · obtain rfl : i = n1 := by omega
        have PT : Hid (Sd (SdO (fun x => O x ∧ x < W.heap.size) (fun _ => False) k) V9 k (onG s zs q l (f.take 0)) wr) := by
          rw [List.take_of_length_le (by omega)] at sv
          exact sv
        clear sv hfar
        go_wp2_with fail
        go_loopw [13] (fun x wr => ∃ j : Nat, x = .int .i64 j ∧ j ≤ n2 ∧ Sd (SdO (fun x => O x ∧ x < W.heap.size) (fun _ => False) k) V9 k (onG s zs q l (f.take j)) wr) (fun x _ => n2 - (intOf x).toNat)
        case atStart => exact ⟨0, rfl, Nat.zero_le _, PT.out⟩
        case round =>
          obtain ⟨j, rfl, hj, sv⟩ := hrel
          rcases Nat.lt_or_ge j n2 with hlt | hge
          · have hj' : (j : Int) < n2 := by omega
            have hwj : IntKind.i64.wrap ((j : Int) + 1) = (j : Int) + 1 := by rw [IntKind.wrap_i64]; omega
            obtain ⟨z, hz⟩ : ∃ z, f[j]? = some z := ⟨f[j], by simp [show j < f.length by omega]⟩
            obtain ⟨b, off, rfl, _⟩ := (HL.out.2.1 wr (sv.far PS.out.2.1 HL.out.2.2.2 HB.out)).2.2.2.resolve_left (by omega)
            have HC : Hid (∀ V c', Sd (SdO (fun x => O x ∧ x < W.heap.size) (fun _ => False) k) V9 k c' V → V.cell? ⟨b, off + j, none⟩ = some (.int .i64 z) ∧ V.cell? ⟨ps, 1, none⟩ = some (.pointer (some ⟨pg, 0, none⟩))) := fun V c' hs => by
              obtain ⟨b', off', e', hc⟩ := (HL.out.2.1 V (hs.far PS.out.2.1 HL.out.2.2.2 HB.out)).2.2.2.resolve_left (by omega)
              cases e'
              have := hc j hlt
              rw [show f.getD j 0 = z by simp [List.getD, hz]] at this
              obtain ⟨D', M', hv, _, _⟩ := hs
              rw [HK.out.1, HK.out.2.2.1]
              exact ⟨this, hv.cells.2.1⟩
            obtain ⟨y0, u1⟩ := HC.out wr _ sv
            have hnx := onGnext (s := s) (zs := zs) (q := q) (l := l) hz
            have hla : (onG s zs q l (f.take j)).la.length = (onG s zs q l (f.take j)).L.length := by obtain ⟨D', M', hv, _, _⟩ := sv; have := hv.len; omega
            have HS : Hid (Sd (SdO (fun x => O x ∧ x < W.heap.size) (fun _ => False) k) V9 k (onG s zs q l (f.take j)) wr.drew) := sv.under (Below.refl _ _).drew
            by_cases h1 : stZ (onG s zs q l (f.take j)).L z = 1
            · rw [if_pos h1] at hnx
              obtain ⟨m, rfl, hm⟩ : ∃ m : Nat, z = m ∧ m < (onG s zs q l (f.take j)).L.length := by
                by_cases h0 : z < 0 ∨ ((onG s zs q l (f.take j)).L.length : Int) ≤ z
                · rw [stZ_out h0] at h1; cases h1
                · exact ⟨z.toNat, by omega, by omega⟩
              rw [Int.toNat_natCast] at hnx
              obtain ⟨NL, hNL⟩ : ∃ NL, NL = (onG s zs q l (f.take j)).la.length := ⟨_, rfl⟩
              have hmN : m < NL := by omega
              have HF : Hid (Calls Tryz.prog 106 #[.pointer (some ⟨pg, 0, none⟩), .int .i64 (m : Nat)] wr.drew fun e w' => e = .returned (.bool true) ∧ Sd (SdO (fun x => O x ∧ x < W.heap.size) (fun _ => False) k) V9 k { onG s zs q l (f.take j) with L := turnZ (onG s zs q l (f.take j)).L m 1 3 } w') := by
                obtain ⟨D', M', hv, hD', ho'⟩ := HS.out
                rw [HK.out.2.2.1]
                refine (dgFound_of k.pg k.gg k.gc _ _ m wr.drew hv.sg).mono ?_
                rintro e w' ⟨rfl, k1, k2⟩
                rw [decide_eq_true h1]
                exact ⟨rfl, Sd.next hD' ho' (hv.sgstep k1 k2 (turnZ_length _ _ _ _))⟩
              have HW : Hid (∀ V, Sd (SdO (fun x => O x ∧ x < W.heap.size) (fun _ => False) k) V9 k { onG s zs q l (f.take j) with L := turnZ (onG s zs q l (f.take j)).L m 1 3 } V → (∃ old, V.cell? ⟨lb, m, none⟩ = some (.int .u64 old)) ∧ V.frozen? ⟨lb, m, none⟩ = false ∧ V.cell? ⟨ps, 4, none⟩ = some (.slice (some ⟨lb, 0, none⟩) NL NL) ∧ Sd (SdO (fun x => O x ∧ x < W.heap.size) (fun _ => False) k) V9 k (onG s zs q l (f.take (j + 1))) (V.setCell ⟨lb, m, none⟩ (.int .u64 q))) := fun V hs => by
                obtain ⟨D5, M5, hv5, hD5, ho5⟩ := hs
                rw [HK.out.1, HK.out.2.2.2]
                refine ⟨⟨(onG s zs q l (f.take j)).la[m], ?_⟩, hv5.hl.frozen _, by rw [hNL]; exact hv5.cells.2.2.2.2.1, ?_⟩
                · have := hv5.hl.cell m
                  rw [this]
                  show (kInts .u64 (onG s zs q l (f.take j)).la)[m]? = _
                  simp [kInts, show m < (onG s zs q l (f.take j)).la.length by omega]
                · rw [hnx]
                  exact Sd.next hD5 ho5 (hv5.setLa m q)
              clear sv hz h1 hm hla hnx hNL
              go_wp2_with fail
              go_region_held3 (fun Y => Y.cell? ⟨b, off + j, none⟩ = some (.int .i64 (m : Nat)) ∧ Y.cell? ⟨ps, 1, none⟩ = some (.pointer (some ⟨pg, 0, none⟩))) (first | exact ⟨y0, u1⟩ | exact HC.out _ _ s7)
                (first | (go_simp; go_at_call 106; refine HF.out.mono ?_; rintro e w7 ⟨rfl, s7⟩))
              have z0 := (HC.out _ _ s7).1
              obtain ⟨⟨old, g1⟩, g2, g3, s8⟩ := HW.out _ s7
              have H8 : Hid (Sd (SdO (fun x => O x ∧ x < W.heap.size) (fun _ => False) k) V9 k (onG s zs q l (f.take (j + 1))) (w7.setCell ⟨lb, m, none⟩ (.int .u64 q))) := s8
              clear s7 s8 y0 u1
              have H9 : Hid (Sd (SdO (fun x => O x ∧ x < W.heap.size) (fun _ => False) k) V9 k (onG s zs q l (f.take (j + 1))) (w7.setCell ⟨lb, m, none⟩ (.int .u64 q)).drew) := H8.out.under (Below.refl _ _).drew
              go_wp2_with fail
              go_region
              go_wp2
              go_roundw
              case rel => exact ⟨j + 1, by simp, by omega, H9.out⟩
              case measure => simp [intOf]; omega
            · rw [if_neg h1] at hnx
              have HF : Hid (Calls Tryz.prog 106 #[.pointer (some ⟨pg, 0, none⟩), .int .i64 z] wr.drew fun e w' => e = .returned (.bool false) ∧ Sd (SdO (fun x => O x ∧ x < W.heap.size) (fun _ => False) k) V9 k (onG s zs q l (f.take (j + 1))) w') := by
                obtain ⟨D', M', hv, hD', ho'⟩ := HS.out
                rw [HK.out.2.2.1]
                refine (dgFound_of k.pg k.gg k.gc _ _ z wr.drew hv.sg).mono ?_
                rintro e w' ⟨rfl, k1, k2⟩
                rw [decide_eq_false h1]
                refine ⟨rfl, ?_⟩
                rw [hnx]
                exact Sd.next hD' ho' (hv.sgstep k1 k2 (turnZ_length _ _ _ _))
              clear sv hz h1 hla hnx
              go_wp2_with fail
              go_region_held3 (fun Y => Y.cell? ⟨b, off + j, none⟩ = some (.int .i64 z) ∧ Y.cell? ⟨ps, 1, none⟩ = some (.pointer (some ⟨pg, 0, none⟩))) (first | exact ⟨y0, u1⟩ | exact HC.out _ _ s7)
                (first | (go_simp; go_at_call 106; refine HF.out.mono ?_; rintro e w7 ⟨rfl, s7⟩))
              have H7 : Hid (Sd (SdO (fun x => O x ∧ x < W.heap.size) (fun _ => False) k) V9 k (onG s zs q l (f.take (j + 1))) w7) := s7
              clear s7 y0 u1
              go_wp2
              go_roundw
              case rel => exact ⟨j + 1, by simp, by omega, H7.out⟩
              case measure => simp [intOf]; omega
          · obtain rfl : j = n2 := by omega
            have PU : Hid (Sd (SdO (fun x => O x ∧ x < W.heap.size) (fun _ => False) k) V9 k (onG s zs q l f) wr) := by
              rw [List.take_of_length_le (by omega)] at sv
              exact sv
            clear sv
            go_wp2
            go_ret
            exact ⟨k, V9, _, _, by rw [← HK.out.1]; rfl, PS.out.2.1, PU.out, PS.out.2.2⟩
end Go.Proofs.YtfcbcpjcmihooaaGreat
