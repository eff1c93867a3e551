/- What one call of Crash does. -/
import Derived.Test.YteokhkoaieibmaaZRd
namespace Go.Proofs.Yteokhkoaieibmaa
open Go.RowKit Go.Shelf
set_option linter.unusedVariables false
set_option maxRecDepth 4000

/-- Losses that are read. -/
def LsIn (W : World) (a : Option Addr) (n : Nat) (ls : List (Int × Int)) : Prop :=
  ls.length = n ∧ n ≤ maxLen ∧ (∀ k ∈ ls, k.1 < 9223372036854775808) ∧ (n = 0 ∨ ∃ b off, a = some ⟨b, off, none⟩ ∧ ∀ (i : Nat) (k : Int × Int), ls[i]? = some k → W.cell? ⟨b, off + i * 2, none⟩ = some (.int .i64 k.1) ∧ W.cell? ⟨b, off + i * 2 + 1, none⟩ = some (.int .i64 k.2))
theorem LsIn.out {W W' : World} {a : Option Addr} {n : Nat} {ls : List (Int × Int)} {S : Nat → Prop} (h : LsIn W a n ls) (ho : Out S W W') (hS : n ≠ 0 → ∀ ad, a = some ad → ¬ S ad.block) : LsIn W' a n ls := by
  obtain ⟨h1, h2, h3, h4⟩ := h
  refine ⟨h1, h2, h3, ?_⟩
  by_cases hn0 : n = 0
  · exact .inl hn0
  rcases h4 with h4 | ⟨b, off, ha, hc⟩
  · exact .inl h4
  · have hS := hS hn0
    exact .inr ⟨b, off, ha, fun i k hi => ⟨ho.cell (hc i k hi).1 (hS ⟨b, off, none⟩ ha), ho.cell (hc i k hi).2 (hS ⟨b, off, none⟩ ha)⟩⟩
theorem LsIn.below {W W' : World} {a : Option Addr} {n : Nat} {ls : List (Int × Int)} (h : LsIn W a n ls) (hb : Below W.heap.size W W') : LsIn W' a n ls := h.out (below_out Non hb) (fun _ _ _ e => e)
def lossAt (ls : List (Int × Int)) (i : Nat) : Int × Int := ls.getD i (0, 0)
def cr1 (k : Int × Int) (z : Zn) : Zn := (crashB z.1 z.2.toNat k.1 k.2, ((crashB z.1 z.2.toNat k.1 k.2).length : Nat))
def crashZ (ls : List (Int × Int)) (zs : List Zn) : List Zn := zs.mapIdx (fun i z => cr1 (lossAt ls i) z)
theorem Try.info_loss : (Try.prog.info? 112).map (·.size) = some 2 := by kernel_rfl

section
variable {O : Nat → Prop} {W : World} {p : Nat} {s : Sh} {zs : List Zn}
/-- One zone is crashed, and written. -/
structure CrM (T : TypeId) (O : Nat → Prop) (V : World) (p : Nat) (s : Sh) (zs : List Zn) (g cz i : Nat) (z : Zn) (ua : Option Addr) (uc : Nat) (ub : Option Addr) (ud : Nat) (B : List (List Int)) (w' : World) : Prop where
  dev : ∃ vs', DvV T O ((w'.setCell ⟨g, i * 2, none⟩ (.slice ub B.length ud)).setCell ⟨g, i * 2 + 1, none⟩ (.int .i64 (B.length : Nat))) p s (zs.set i (B, (B.length : Nat))) g cz vs'
  c0 : w'.cell? ⟨g, i * 2, none⟩ = some (.slice ua z.1.length uc)
  c1 : w'.cell? ⟨g, i * 2 + 1, none⟩ = some (.int .i64 z.2)
  f0 : w'.frozen? ⟨g, i * 2, none⟩ = false
  f1 : w'.frozen? ⟨g, i * 2 + 1, none⟩ = false
  out : Out (fun x => O x) V ((w'.setCell ⟨g, i * 2, none⟩ (.slice ub B.length ud)).setCell ⟨g, i * 2 + 1, none⟩ (.int .i64 (B.length : Nat)))
  blk : ∀ {q : Nat} {L : List Value} {t : TypeId}, Blk V q L t → t ≠ 39 → Blk w' q L t
theorem cr_mem {T : TypeId} {V w' : World} {g cz : Nat} {vs : List Value} {i : Nat} {z : Zn} {ua : Option Addr} {uc : Nat} {ub : Option Addr} {ud : Nat} {B : List (List Int)} (hO : ∀ x, V.heap.size ≤ x → O x) (hv : DvV T O V p s zs g cz vs) (hz : zs[i]? = some z) (hu : vs[i]? = some (.slice ua z.1.length uc))
    (hr : RowAt (fun x => O x ∨ V.heap.size ≤ x) w' (.slice ub B.length ud) B) (ho : Out (blkOf ua) V w') (hf : ub = ua ∨ ∀ r, (Value.slice ub B.length ud).ownBlock = some r → V.heap.size ≤ r) : CrM T O V p s zs g cz i z ua uc ub ud B w' := by
  have hr' := hr.mono (O' := O) (fun x hx _ => by rcases hx with h | h; exact h; exact hO x h)
  have ho' : Out (fun x => (Value.slice ua z.1.length uc).ownBlock = some x) V w' := ho.mono (fun x hx _ => by obtain ⟨ad, rfl, rfl⟩ := hx; rfl)
  have hi := (List.getElem?_eq_some_iff.1 hz).1
  obtain ⟨uv, u1, u2, _⟩ := hv.rows i _ z hu hz
  obtain ⟨k1, k2, k3, hd⟩ := hv.upd (O1 := O) hz hu ho' (fun _ h => h) hr' (by
    rcases hf with rfl | hf
    · exact .inl (by cases ub <;> rfl)
    · exact .inr hf)
  have hd2 := hd.setD (i := i) (z := (B, z.2)) (by simp [hi]) (B.length : Nat)
  rw [List.set_set] at hd2
  refine ⟨⟨_, hd2⟩, k1, k2, k3 _, k3 _, ?_, fun hq ht => ho'.blk hq (blk_not_row hq ht u1)⟩
  exact ((ho'.mono (fun x hx _ => u2 x hx)).setCell (p := ⟨g, i * 2, none⟩) (.inl hv.og) _).setCell (p := ⟨g, i * 2 + 1, none⟩) (.inl hv.og) _

theorem crashB_len (bs : List (List Int)) (d : Nat) (k t : Int) : (crashB bs d k t).length ≤ bs.length := by
  unfold crashB keptB
  simp only [List.length_append, List.length_take, List.length_drop]
  split
  · rename_i D hD
    have := (List.getElem?_eq_some_iff.1 hD).1
    simp at this
    split <;> simp <;> omega
  · simp; omega

set_option maxHeartbeats 4000000 in
theorem crash_of (a : Option Addr) (n c : Nat) (ls : List (Int × Int)) (hd : Dv 104 O W p s zs) (hw : Wf s zs) (hl : LsIn W a n ls) (ha : n ≠ 0 → ∀ ad, a = some ad → ¬ O ad.block) :
    Calls Try.prog 32 #[.pointer (some ⟨p, 0, none⟩), .slice a n c] W fun e w' => (∃ v, e = .returned v) ∧ Step 104 O W p s (crashZ ls zs) w' := by
  obtain ⟨g, cz, vs, hv⟩ := hd
  have c4 := hv.pcell.2.2.2.2
  have hsm := hv.small
  have hla : ∀ ad, a = some ad → n ≠ 0 → ad.block < W.heap.size := by
    intro ad e hn
    obtain ⟨b, off, e', hc⟩ := hl.2.2.2.resolve_left hn
    rw [e] at e'; cases e'
    have := (hc 0 (ls[0]'(by have := hl.1; omega)) (by simp)).1
    exact old_block this
  have HV : Hid (DvV 104 O W p s zs g cz vs ∧ Wf s zs ∧ LsIn W a n ls ∧ (n ≠ 0 → ∀ ad, a = some ad → ¬ O ad.block) ∧ (∀ ad, a = some ad → n ≠ 0 → ad.block < W.heap.size)) := ⟨hv, hw, hl, ha, hla⟩
  clear hv hw hl ha hla
  generalize hN : zs.length = N at *
  go_enter Try.func32, Try.ntmps32
  go_wp2
  go_loopw [11] (fun x wr => ∃ i : Nat, x = .int .i64 i ∧ i ≤ N ∧ (∃ vs', DvV 104 (fun x => O x ∨ W.heap.size ≤ x) wr p s (upTo (fun i z => cr1 (lossAt ls i) z) zs i) g cz vs') ∧ Out O W wr) (fun x wr => N - (intOf x).toNat)
  case atStart => exact ⟨0, rfl, Nat.zero_le _, ⟨vs, by rw [upTo_zero]; exact HV.out.1.mono (fun x h _ => .inl h)⟩, Out.refl _ _⟩
  case round =>
    obtain ⟨i, rfl, hi, ⟨vs', hv⟩, ho⟩ := hrel
    have c4' := hv.pcell.2.2.2.2
    rw [upTo_length, hN] at c4'
    rcases Nat.lt_or_ge i N with hlt | hge
    · obtain ⟨z, hz⟩ : ∃ z, zs[i]? = some z := ⟨zs[i]'(by omega), by simp⟩
      have hz' := (upTo_get (fun i z => cr1 (lossAt ls i) z) zs i).trans hz
      obtain ⟨ua, uc, hu, hr, z0, z1⟩ := hv.at hz'
      have hi' : (i : Int) < (N : Int) := by omega
      have hw1 : IntKind.i64.wrap ((i : Int) + 1) = (i : Int) + 1 := by rw [IntKind.wrap_i64]; omega
      obtain ⟨k, hk⟩ : ∃ k, k = lossAt ls i := ⟨_, rfl⟩
      obtain ⟨q, hq⟩ : ∃ q, q = wr.heap.size := ⟨_, rfl⟩
      have hzz := HV.out.2.1.zone z (List.mem_of_getElem? hz)
      obtain ⟨dn, hdn⟩ : ∃ dn : Nat, z.2 = dn := ⟨z.2.toNat, by omega⟩
      have hpb := power_bounds HV.out.2.1.right.2.2.2.2.1
      have hkb : k.1 < 9223372036854775808 := by
        rw [hk, lossAt, List.getD]
        cases e : ls[i]? with
        | none => show (0 : Int) < _; omega
        | some y => exact HV.out.2.2.1.2.2.1 y (List.mem_of_getElem? e)
      have HC : Hid (∀ V, Below wr.heap.size wr V → Calls Try.prog 61 #[.agg #[.slice ua z.1.length uc, .int .i64 z.2], .agg #[.int .i64 k.1, .int .i64 k.2]] V (Crashed V (fun x => O x ∨ W.heap.size ≤ x) ua uc z.1 dn k.1 k.2)) := by
        intro V hV
        rw [hdn]
        exact crashed_of _ ua z.1.length uc dn k.1 k.2 z.1 V ((hv.under hV).rows i _ z hu hz') (HV.out.2.1.short z (List.mem_of_getElem? hz)) (fun D hD => by have := hzz.2.2.2 D hD; omega) (by omega) hkb
      obtain ⟨B, hB⟩ : ∃ B, B = crashB z.1 dn k.1 k.2 := ⟨_, rfl⟩
      have HM : Hid (∀ V w', Below wr.heap.size wr V → RowAt (fun x => (O x ∨ W.heap.size ≤ x) ∨ V.heap.size ≤ x) w' (.slice ua B.length uc) B → Out (blkOf ua) V w' → CrM 104 (fun x => O x ∨ W.heap.size ≤ x) V p s (upTo (fun i z => cr1 (lossAt ls i) z) zs i) g cz i z ua uc ua uc B w') :=
        fun V w' hV h1 h2 => cr_mem (fun x hx => .inr (by have := ho.size; have := hV.size; omega)) (hv.under hV) hz' hu h1 h2 (.inl rfl)
      have HS : Hid (Out O W wr ∧ zs[i]? = some z ∧ k = lossAt ls i ∧ z.2 = dn ∧ q = wr.heap.size ∧ DvV 104 (fun x => O x ∨ W.heap.size ≤ x) wr p s (upTo (fun i z => cr1 (lossAt ls i) z) zs i) g cz vs' ∧ B = crashB z.1 dn k.1 k.2) := ⟨ho, hz, hk, hdn, hq, hv, hB⟩
      have hls := HV.out.2.2.1.out ho HV.out.2.2.2.1
      have HU : Hid (vs'[i]? = some (.slice ua z.1.length uc)) := hu
      clear hkb hpb hzz hz' hr hu
      by_cases hin : i < n
      · have hin' : (i : Int) < n := by omega
        obtain ⟨b, off, rfl, hc⟩ := hls.2.2.2.resolve_left (by omega)
        obtain ⟨y0, y1⟩ := hc i k (by rw [hk, lossAt, List.getD]; have : i < ls.length := by rw [hls.1]; exact hin
                                      simp [this])
        have w0 : ∀ o, (wr.alloc o).cell? ⟨b, off + i * 2, none⟩ = some (.int .i64 k.1) := fun o => (((Below.refl wr.heap.size wr).alloc (Nat.le_refl _) o).cell (old_block y0)).trans y0
        have w1 : ∀ o, (wr.alloc o).cell? ⟨b, off + i * 2 + 1, none⟩ = some (.int .i64 k.2) := fun o => (((Below.refl wr.heap.size wr).alloc (Nat.le_refl _) o).cell (old_block y1)).trans y1
        have HX : Hid (Blk (wr.alloc (.cells #[.int .i64 k.1, .int .i64 k.2] 112)) q [.int .i64 k.1, .int .i64 k.2] 112 ∧ Below wr.heap.size wr (wr.alloc (.cells #[.int .i64 k.1, .int .i64 k.2] 112))) := ⟨Blk.new' hq.symm rfl, (Below.refl _ _).alloc (Nat.le_refl _) _⟩
        clear hls hc hz hdn hk hv ho c4 z0 z1 c4' y0 y1 hB
        go_upto_region 6 with fail
        rw [← hq]
        generalize hVV : World.alloc _ _ = V at HX ⊢
        clear hVV w0 w1 hq
        have lb : Blk V q [.int .i64 k.1, .int .i64 k.2] 112 := HX.out.1
        have hvV := HS.out.2.2.2.2.2.1.under HX.out.2
        have c4V := hvV.pcell.2.2.2.2
        rw [upTo_length, hN] at c4V
        obtain ⟨ua', uc', hu', _, z0V, z1V⟩ := hvV.at ((upTo_get (fun i z => cr1 (lossAt ls i) z) zs i).trans HS.out.2.1)
        have hue : ua' = ua ∧ uc' = uc := by rw [HU.out] at hu'; cases hu'; exact ⟨rfl, rfl⟩
        obtain ⟨rfl, rfl⟩ := hue
        have l0 : V.cell? ⟨q, 0, none⟩ = some (.int .i64 k.1) := lb.cell 0
        have l1 : V.cell? ⟨q, 1, none⟩ = some (.int .i64 k.2) := lb.cell 1
        obtain ⟨Lg, hLg⟩ := own_blk hvV.hg
        have hpg : p ≠ g := blk_ne hvV.hp hLg (by decide)
        have hqg : q ≠ g := blk_ne lb hLg (by decide)
        have HP : Hid (Blk V p [.int .i64 s.z, .int .i64 s.zb, .int .i64 s.b, .int .i64 s.r, .slice (some ⟨g, 0, none⟩) N cz] 104) := by
          have := hvV.hp
          rw [upTo_length, hN] at this
          exact this
        have HL : Hid (Blk V q [.int .i64 k.1, .int .i64 k.2] 112) := lb
        have HE : Hid (B = crashB z.1 dn k.1 k.2) := HS.out.2.2.2.2.2.2
        clear hvV hu' lb hLg
        refine wp_region_noPanic ?_
        go_region_law (go_simp; go_at_call 61; refine (HC.out _ (by exact HX.out.2.drew)).mono ?_; rintro e w3 ⟨rfl, r3, o3⟩; rw [← HE.out] at r3; have M := HM.out _ w3 (by exact HX.out.2.drew) r3 o3; have m4 : w3.cell? ⟨p, 4, none⟩ = some (.slice (some ⟨g, 0, none⟩) N cz) := (M.blk HP.out (by decide)).cell 4; have m0 : w3.cell? ⟨q, 0, none⟩ = some (.int .i64 k.1) := (M.blk HL.out (by decide)).cell 0; have m1 : w3.cell? ⟨q, 1, none⟩ = some (.int .i64 k.2) := (M.blk HL.out (by decide)).cell 1; have m5 := M.c0; have m6 := M.c1; have m7 := M.f0; have m8 := M.f1; rw [← HE.out])
        all_goals
          refine NoPanic.normal ?_
          have HF : Hid ((∃ vs', DvV 104 (fun x => O x ∨ W.heap.size ≤ x) ((w3.setCell ⟨g, i * 2, none⟩ (.slice ua' B.length uc')).setCell ⟨g, i * 2 + 1, none⟩ (.int .i64 (B.length : Nat))) p s (upTo (fun i z => cr1 (lossAt ls i) z) zs (i + 1)) g cz vs') ∧ Out O W ((w3.setCell ⟨g, i * 2, none⟩ (.slice ua' B.length uc')).setCell ⟨g, i * 2 + 1, none⟩ (.int .i64 (B.length : Nat)))) := by
            refine ⟨?_, ?_⟩
            · obtain ⟨vs2, hv2⟩ := M.dev
              refine ⟨vs2, ?_⟩
              rw [← upTo_next _ _ HS.out.2.1]
              have e : cr1 (lossAt ls i) z = (B, ((B.length : Nat) : Int)) := by
                rw [← HS.out.2.2.1, cr1, HS.out.2.2.2.1, Int.toNat_natCast, ← HE.out]
              rw [e]
              exact hv2
            · have h1 : Out O W V := HS.out.1.under HX.out.2
              exact h1.drew.trans M.out (fun x hx => hx)
          clear M m0 m1 m4 m5 m6 m7 m8 r3 o3 z0V z1V c4V l0 l1
          generalize World.setCell _ _ _ = V9 at HF ⊢
          go_wp2
          go_roundw
          case rel => exact ⟨i + 1, by simp, by omega, HF.out.1, HF.out.2⟩
          case measure => simp [intOf]; omega
      · have hin' : (n : Int) ≤ i := by omega
        have hk0 : k = (0, 0) := by rw [hk, lossAt, List.getD, List.getElem?_eq_none (by have := hls.1; omega)]; rfl
        have HX : Hid (Blk (wr.alloc (.cells #[.int .i64 0, .int .i64 0] 112)) q [.int .i64 k.1, .int .i64 k.2] 112 ∧ Below wr.heap.size wr (wr.alloc (.cells #[.int .i64 0, .int .i64 0] 112))) := by
          refine ⟨by rw [hk0]; exact Blk.new' hq.symm rfl, (Below.refl _ _).alloc (Nat.le_refl _) _⟩
        clear hls hz hdn hk hv ho c4 z0 z1 c4' hB hk0
        go_upto_region 6 with fail
        rw [← hq]
        generalize hVV : World.alloc _ _ = V at HX ⊢
        clear hVV hq
        have lb : Blk V q [.int .i64 k.1, .int .i64 k.2] 112 := HX.out.1
        have hvV := HS.out.2.2.2.2.2.1.under HX.out.2
        have c4V := hvV.pcell.2.2.2.2
        rw [upTo_length, hN] at c4V
        obtain ⟨ua', uc', hu', _, z0V, z1V⟩ := hvV.at ((upTo_get (fun i z => cr1 (lossAt ls i) z) zs i).trans HS.out.2.1)
        have hue : ua' = ua ∧ uc' = uc := by rw [HU.out] at hu'; cases hu'; exact ⟨rfl, rfl⟩
        obtain ⟨rfl, rfl⟩ := hue
        have l0 : V.cell? ⟨q, 0, none⟩ = some (.int .i64 k.1) := lb.cell 0
        have l1 : V.cell? ⟨q, 1, none⟩ = some (.int .i64 k.2) := lb.cell 1
        obtain ⟨Lg, hLg⟩ := own_blk hvV.hg
        have hpg : p ≠ g := blk_ne hvV.hp hLg (by decide)
        have hqg : q ≠ g := blk_ne lb hLg (by decide)
        have HP : Hid (Blk V p [.int .i64 s.z, .int .i64 s.zb, .int .i64 s.b, .int .i64 s.r, .slice (some ⟨g, 0, none⟩) N cz] 104) := by
          have := hvV.hp
          rw [upTo_length, hN] at this
          exact this
        have HL : Hid (Blk V q [.int .i64 k.1, .int .i64 k.2] 112) := lb
        have HE : Hid (B = crashB z.1 dn k.1 k.2) := HS.out.2.2.2.2.2.2
        clear hvV hu' lb hLg
        refine wp_region_noPanic ?_
        go_region_law (go_simp; go_at_call 61; refine (HC.out _ (by exact HX.out.2.drew)).mono ?_; rintro e w3 ⟨rfl, r3, o3⟩; rw [← HE.out] at r3; have M := HM.out _ w3 (by exact HX.out.2.drew) r3 o3; have m4 : w3.cell? ⟨p, 4, none⟩ = some (.slice (some ⟨g, 0, none⟩) N cz) := (M.blk HP.out (by decide)).cell 4; have m0 : w3.cell? ⟨q, 0, none⟩ = some (.int .i64 k.1) := (M.blk HL.out (by decide)).cell 0; have m1 : w3.cell? ⟨q, 1, none⟩ = some (.int .i64 k.2) := (M.blk HL.out (by decide)).cell 1; have m5 := M.c0; have m6 := M.c1; have m7 := M.f0; have m8 := M.f1; rw [← HE.out])
        all_goals
          refine NoPanic.normal ?_
          have HF : Hid ((∃ vs', DvV 104 (fun x => O x ∨ W.heap.size ≤ x) ((w3.setCell ⟨g, i * 2, none⟩ (.slice ua' B.length uc')).setCell ⟨g, i * 2 + 1, none⟩ (.int .i64 (B.length : Nat))) p s (upTo (fun i z => cr1 (lossAt ls i) z) zs (i + 1)) g cz vs') ∧ Out O W ((w3.setCell ⟨g, i * 2, none⟩ (.slice ua' B.length uc')).setCell ⟨g, i * 2 + 1, none⟩ (.int .i64 (B.length : Nat)))) := by
            refine ⟨?_, ?_⟩
            · obtain ⟨vs2, hv2⟩ := M.dev
              refine ⟨vs2, ?_⟩
              rw [← upTo_next _ _ HS.out.2.1]
              have e : cr1 (lossAt ls i) z = (B, ((B.length : Nat) : Int)) := by
                rw [← HS.out.2.2.1, cr1, HS.out.2.2.2.1, Int.toNat_natCast, ← HE.out]
              rw [e]
              exact hv2
            · have h1 : Out O W V := HS.out.1.under HX.out.2
              exact h1.drew.trans M.out (fun x hx => hx)
          clear M m0 m1 m4 m5 m6 m7 m8 r3 o3 z0V z1V c4V l0 l1
          generalize World.setCell _ _ _ = V9 at HF ⊢
          go_wp2
          go_roundw
          case rel => exact ⟨i + 1, by simp, by omega, HF.out.1, HF.out.2⟩
          case measure => simp [intOf]; omega
    · obtain rfl : i = N := by omega
      have HS : Hid (DvV 104 (fun x => O x ∨ W.heap.size ≤ x) wr p s (upTo (fun i z => cr1 (lossAt ls i) z) zs i) g cz vs' ∧ Out O W wr) := ⟨hv, ho⟩
      clear hv ho c4 c4'
      go_wp2
      go_end0
      refine ⟨⟨_, rfl⟩, ⟨g, cz, vs', ?_⟩, HS.out.2⟩
      have := HS.out.1
      rw [upTo_all _ _ (by omega)] at this
      exact this.mono (fun x hx hlt => by
        rcases hx with h | h
        · exact .inl h
        · exact .inr ⟨h, hlt⟩)
end
end Go.Proofs.Yteokhkoaieibmaa
