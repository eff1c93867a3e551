/- Texts of this seat, one behind the other: StOc. -/
import Derived.Test.YtfcbcpjcmihooaaGreatQ21
import Derived.Test.YtfcbcpjcmihooaaGreatR2
import Derived.Test.YtfcbcpjcmihooaaGreatP24
import Derived.Test.YtfcbcpjcmihooaaGreatR4
import Derived.Test.YtfcbcpjcmihooaaGreatR5
/- Both stores on what devices hold: what comes in, and what one call of devices does. -/
namespace Go.Proofs.YtfcbcpjcmihooaaGreat
open Go.RowKit Go.ChangeShapes Go.WideShapes
set_option linter.unusedVariables false
set_option maxRecDepth 4000
section
variable {H : Type} {enc : TypeId × Value → H} {W : World}
theorem addr_of {cs : List Value} {n : Nat} {y : DataW H × List MemPlace} (h : DataW.trod enc Tryz.prog W 0 (fun _ => true) true n 60 cs = some y) : ∃ s : Pr, cs = [.int .i64 s.1, .int .i64 s.2] ∧ FitsS s := by
  obtain ⟨xs, m, _, _, hlen, hxl, hf⟩ := DataW.trod_struct Tryz.underlying60 h
  have hc2 : Tryz.prog.cellsOf 60 = 2 := by kernel_rfl
  rw [hc2] at hlen
  match cs, hlen, xs, hxl with
  | [v0, v1], _, [x0, x1], _ =>
    have h0 := hf 0 _ rfl
    have h1 := hf 1 _ rfl
    simp only [List.getElem?_cons_zero, List.getElem?_cons_succ] at h0 h1
    obtain ⟨a, rfl, f0⟩ := int_of h0
    obtain ⟨b, rfl, f1⟩ := int_of h1
    exact ⟨(a, b), rfl, f0, f1⟩
theorem place_of {cs : List Value} {n : Nat} {y : DataW H × List MemPlace} (h : DataW.trod enc Tryz.prog W 0 (fun _ => true) true n 62 cs = some y) : ∃ p : Pl, cs = plL p ∧ FitsP p := by
  obtain ⟨xs, m, _, _, hlen, hxl, hf⟩ := DataW.trod_struct Tryz.underlying62 h
  have hc4 : Tryz.prog.cellsOf 62 = 4 := by kernel_rfl
  rw [hc4] at hlen
  match cs, hlen, xs, hxl with
  | [v0, v1, v2, v3], _, [x0, x1, x2], _ =>
    have h0 := hf 0 _ rfl
    have h1 := hf 1 _ rfl
    have h2 := hf 2 _ rfl
    simp only [List.getElem?_cons_zero, List.getElem?_cons_succ] at h0 h1 h2
    obtain ⟨a, rfl, f0⟩ := u32_of h0
    obtain ⟨b, rfl, f1⟩ := u64_of h1
    obtain ⟨s, hs, f2⟩ := addr_of (cs := [v2, v3]) h2
    simp only [List.cons.injEq, and_true] at hs
    obtain ⟨rfl, rfl⟩ := hs
    exact ⟨((a, b), s), rfl, ⟨f0, f1⟩, f2⟩
/-- Places that came in. -/
theorem places_of {a : Option Addr} {len cap fuel : Nat} {y : DataW H × List MemPlace} (h : DataW.trod enc Tryz.prog W 0 (fun _ => true) true fuel 46 [.slice a len cap] = some y) : ∃ ps, KIn W a len ps ∧ len ≤ cap ∧ (a = none → len = 0 ∧ cap = 0) := by
  obtain ⟨⟨h1, h2, h3⟩, h4⟩ := rows_of Tryz.underlying46 (sz := 4) (by kernel_rfl) (by decide) h
  rcases h4 with rfl | ⟨b, off, rfl, hc⟩
  · exact ⟨[], ⟨rfl, Nat.zero_le _, by simp, .inl rfl⟩, h1, h3⟩
  · obtain ⟨ps, hl, hp⟩ := list_of (n := len) (p := fun i (x : Pl) => (∀ (j : Nat) (v : Value), (plL x)[j]? = some v → W.cell? ⟨b, off + i * 4 + j, none⟩ = some v) ∧ FitsP x) (fun i hi => by
      obtain ⟨cs, e1, e2, f, y', e3⟩ := hc i hi
      obtain ⟨x, rfl, hf⟩ := place_of e3
      exact ⟨x, fun j v hv => by rw [e2 j (by have := (List.getElem?_eq_some_iff.1 hv).1; simpa [plL] using this)]; exact hv, hf⟩)
    refine ⟨ps, ⟨hl, Nat.le_trans h1 h2, fun x hx => ?_, .inr ⟨b, off, rfl, fun i x hx => (hp i x hx).1⟩⟩, h1, h3⟩
    obtain ⟨i, hi⟩ := List.getElem?_of_mem hx
    exact (hp i x hi).2
theorem open_places {a : Option Addr} {len cap : Nat} {d : DataW H} {p : List MemPlace} (h : Came enc W 46 (.slice a len cap) d p) : ∃ ps, KIn W a len ps ∧ len ≤ cap ∧ (a = none → len = 0 ∧ cap = 0) := by
  obtain ⟨fuel, hf⟩ := h
  exact places_of (by simpa [Value.cells] using hf)
theorem came_ints {a : Option Addr} {len cap : Nat} {d : DataW H} {p : List MemPlace} (h : Came enc W 47 (.slice a len cap) d p) : ∃ zs, NIn .i64 W a len zs := by
  obtain ⟨fuel, hf⟩ := h
  have hf' : DataW.trod enc Tryz.prog W 0 (fun _ => true) true fuel 47 [.slice a len cap] = some (d, p) := by simpa [Value.cells] using hf
  rcases ints_cells Tryz.underlying47 Tryz.underlying3 (by kernel_rfl) hf' with ⟨rfl, rfl, rfl⟩ | ⟨b, off, zs, ha, hn, hl, hm, hz, hwz, hcell⟩
  · exact ⟨[], nin_none _ _⟩
  · refine ⟨zs.take len, by simp [hz]; omega, Nat.le_trans hl hm, fun z hz' => hwz z (List.mem_of_mem_take hz'), ?_⟩
    rcases ha with ha | ha
    · exact .inl ha
    · exact .inr ⟨b, off, ha, fun i hi => by rw [hcell i hi]; simp [List.getD, hi]⟩
end
theorem put_o : ∀ (f : Nat) (st : St) (l : List Pt), (putF f st l).2.o = st.o
  | 0, st, l => by unfold putF; rfl
  | f + 1, st, [] => by unfold putF; rfl
  | f + 1, st, p :: l => by
    rw [putFstep]
    split
    · rw [put_o f]; rfl
    · rfl
theorem do_o {st : St} (h : st.o = 0 ∨ st.o = 1) (o : Od) : (doM st o).o = 0 ∨ (doM st o).o = 1 := by
  unfold doM
  split
  · exact h
  · split
    · unfold markM
      simp only
      split
      · omega
      · exact h
    · split
      · unfold clearM
        split
        · exact h
        · exact h
      · unfold putM
        split
        · rw [put_o]; exact h
        · exact h
/-- What both stores are beside each other, made one behind the other. -/
theorem bo_made {B : Nat} {W V9 w3 V10 w4 : World} {O1 O2 : Nat → Prop} {k : Bs} {k' : Rs} {D' M' : Nat → Prop} {st : St} {m c2 : Nat} (hB : Below B W V9) (h9 : c2 ≤ V9.heap.size) (sv : Sv O1 V9 k st m w3) (hk : ∀ x, k.has x → c2 ≤ x ∧ B ≤ x) (h10 : Below w3.heap.size w3 V10) (sd : Sd (SdO D' M' k') V10 k' st w4)
    (hd : ∀ x, SdO D' M' k' x → O2 x ∨ w3.heap.size ≤ x) (hO1 : ∀ x, O1 x → B ≤ x ∧ ¬ O2 x) (hO2 : ∀ x, O2 x → B ≤ x ∧ x < c2) (hBc : B ≤ c2) (hm : st.S.length ≤ m) : Bo B W k.ps k'.ps st m w4 := by
  obtain ⟨D, hv, hD, ho⟩ := sv
  obtain ⟨D2, M2, hv2, hR2, ho2⟩ := sd
  have s1 := ho.size
  have s2 := h10.size
  have s3 := ho2.size
  have st' : ∀ x, StO D k x → B ≤ x ∧ ¬ O2 x := fun x hx => by
    rcases hx with hx | hx
    · rcases hD x hx with h | h
      · exact hO1 x h
      · exact ⟨by omega, fun h2 => by have := (hO2 x h2).2; omega⟩
    · exact ⟨(hk x hx).2, fun h2 => by have := (hO2 x h2).2; have := (hk x hx).1; omega⟩
  have ap : ∀ x, StO D k x → ¬ SdO D' M' k' x := fun x hx hs => by
    rcases hd x hs with h | h
    · exact (st' x hx).2 h
    · have := hv.all x hx; omega
  have dB : ∀ x, SdO D' M' k' x → B ≤ x := fun x hx => by
    rcases hd x hx with h | h
    · exact (hO2 x h).1
    · omega
  have b3 : Below B W w3 := hB.trans (ho.below (by omega) (fun j hj => by
    rcases hj with h | h
    · exact (hO1 j h).1
    · exact (hk j h).2))
  have b4 : Below B W w4 := (b3.trans (h10.mono (by omega))).trans (ho2.below (by omega) dB)
  refine ⟨D, k, D2, M2, k', rfl, rfl, (hv.under h10).out ho2 (fun x hx hs => ap x hx hs), hv2, fun x hx => (st' x hx).1, fun x hx => ?_, fun x hx hs => ?_, b4, hm⟩
  · rcases hR2 x hx with h | h
    · exact dB x h
    · omega
  · rcases hR2 x hs with h | h
    · exact ap x hx h
    · have := hv.all x hx; omega
set_option maxHeartbeats 2000000 in
theorem devices_of (s : Sh) (zs : List Zn) (q : Int) (l : List Pl) (f : List Int) (a1 a2 a3 : Option Addr) (n1 c1 n2 c2 n3 c3 : Nat) (W V : World) (hz : -9223372036854775808 ≤ s.z) (hV : Below W.heap.size W V) (hq : FitsU q) (h1 : ZsIn W a1 n1 zs) (h2 : KIn W a2 n2 l) (h3 : NIn .i64 W a3 n3 f) (hn2 : n2 ≤ 1000) (hn3 : n3 ≤ 1000) :
    Calls Tryz.prog 19 #[.agg (shL s).toArray, .slice a1 n1 c1, .int .u64 q, .slice a2 n2 c2, .slice a3 n3 c3] V fun e w' => (¬ Wf s zs ∧ e = .returned (.tuple #[.pointer none, .pointer none]) ∧ Below W.heap.size W w') ∨ (Wf s zs ∧ ∃ ps rs, e = .returned (.tuple #[.pointer (some ⟨ps, 0, none⟩), .pointer (some ⟨rs, 0, none⟩)]) ∧ Bo W.heap.size W ps rs (onG s zs q l f) n2 w') := by
  have HO : Hid (∀ V, Below W.heap.size W V → Calls Tryz.prog 54 #[.agg (shL s).toArray, .slice a1 n1 c1] V (Opened 134 V s zs)) := fun V hb => zopen_of s a1 n1 c1 zs V hz (h1.below hb)
  have HR : Hid (∀ w1, Below W.heap.size W w1 → Calls Tryz.prog 55 #[.agg (shL s).toArray, .slice a1 n1 c1] w1 (Opened 142 w1 s zs)) := fun w1 hb => rOpen_of s a1 n1 c1 zs w1 hz (h1.below hb)
  by_cases hw : Wf s zs
  · have HAll : Hid (∀ V, Below W.heap.size W V → Calls Tryz.prog 54 #[.agg (shL s).toArray, .slice a1 n1 c1] V fun e w1 => ∃ p, e = .returned (.pointer (some ⟨p, 0, none⟩)) ∧ Below V.heap.size V w1 ∧ Calls Tryz.prog 55 #[.agg (shL s).toArray, .slice a1 n1 c1] w1 fun e w2 => ∃ r, e = .returned (.pointer (some ⟨r, 0, none⟩)) ∧ Calls Tryz.prog 44 #[.pointer (some ⟨p, 0, none⟩), .int .u64 q, .slice a2 n2 c2, .slice a3 n3 c3, .int .i64 0] w2 fun e w3 => ∃ ps, e = .returned (.pointer (some ⟨ps, 0, none⟩)) ∧ Calls Tryz.prog 47 #[.pointer (some ⟨r, 0, none⟩), .int .u64 q, .slice a2 n2 c2, .slice a3 n3 c3, .int .i64 0] w3 fun e w4 => ∃ rs, e = .returned (.pointer (some ⟨rs, 0, none⟩)) ∧ Bo W.heap.size W ps rs (onG s zs q l f) n2 w4) := by
      intro V hV
      have hsV := hV.size
      refine (HO.out V hV).mono ?_
      rintro e w1 ⟨b1, ⟨hn, _⟩ | ⟨_, p, rfl, hd⟩⟩
      · exact (hn hw).elim
      have bW1 : Below W.heap.size W w1 := hV.trans (b1.mono hsV)
      refine ⟨p, rfl, b1, (HR.out w1 bW1).mono ?_⟩
      rintro e w2 ⟨b2, ⟨hn, _⟩ | ⟨_, r, rfl, hd2⟩⟩
      · exact (hn hw).elim
      have s1 := b1.size
      have s2 := b2.size
      have bW2 : Below W.heap.size W w2 := bW1.trans (b2.mono bW1.size)
      have hd1' : Dv 134 (fun x => V.heap.size ≤ x ∧ x < w1.heap.size) w2 p s zs := kdv_under hd.there b2
      have hd2' : Dv 142 (fun x => w1.heap.size ≤ x ∧ x < w2.heap.size) w2 r s zs := hd2.there
      have far : ∀ (Y X : World), Below W.heap.size W Y → Out (fun j => W.heap.size ≤ j) Y X → Below W.heap.size W X := fun Y X hY ho => hY.trans (ho.below hY.size (fun j hj => hj))
      refine ⟨r, rfl, (on_of hd1' hw q hq W.heap.size bW2.size (fun x hx => by omega) a2 n2 c2 l (fun X ho => h2.below (far _ _ bW2 ho)) hn2 a3 n3 c3 f (fun X ho => h3.below (far _ _ bW2 ho)) hn3).mono ?_⟩
      rintro e w3 ⟨k, V9, rfl, b9, sv, hk⟩
      have s9 := b9.size
      have bW9 : Below W.heap.size W V9 := bW2.trans (b9.mono bW2.size)
      have hko : ∀ j, StO (fun x => (V.heap.size ≤ x ∧ x < w1.heap.size) ∧ x < w2.heap.size) k j → W.heap.size ≤ j ∧ ¬ (w1.heap.size ≤ j ∧ j < w2.heap.size) := fun j hj => by
        rcases hj with h | h
        · exact ⟨by omega, by omega⟩
        · have := hk j h; exact ⟨by omega, by omega⟩
      have hov : Out (StO (fun x => (V.heap.size ≤ x ∧ x < w1.heap.size) ∧ x < w2.heap.size) k) V9 w3 := by obtain ⟨_, _, _, ho⟩ := sv; exact ho
      have bW3 : Below W.heap.size W w3 := bW9.trans (hov.below bW9.size (fun j hj => (hko j hj).1))
      have hd3 : Dv 142 (fun x => w1.heap.size ≤ x ∧ x < w2.heap.size) w3 r s zs := by
        obtain ⟨g, cc, vs, hv⟩ := hd2'
        exact ⟨g, cc, vs, (hv.under b9).out hov (fun x hx hs => (hko x hs).2 hx)⟩
      refine ⟨k.ps, rfl, (don_of hd3 hw q hq W.heap.size bW3.size (fun x hx => by omega) a2 n2 c2 l (fun X ho => h2.below (far _ _ bW3 ho)) hn2 a3 n3 c3 f (fun X ho => h3.below (far _ _ bW3 ho)) hn3).mono ?_⟩
      rintro e w4 ⟨k', V10, D', M', rfl, b10, sd, hdd⟩
      have hlen : (onG s zs q l f).S.length ≤ n2 := by
        have := (onP_len s zs q h2.2.2.1 l.length (Nat.le_refl _)).2
        rw [List.take_length] at this
        have e : (onG s zs q l f).S = (onP s zs q l).S := rfl
        rw [e]
        have := h2.1
        omega
      exact ⟨k'.ps, rfl, bo_made (c2 := w2.heap.size) (O2 := fun x => w1.heap.size ≤ x ∧ x < w2.heap.size) bW9 s9 sv (fun x hx => by have := hk x hx; have := bW2.size; exact ⟨by omega, by omega⟩) b10 sd hdd (fun x hx => ⟨by omega, by omega⟩) (fun x hx => ⟨by omega, hx.2⟩) bW2.size hlen⟩
    have HV : Hid (Below W.heap.size W V ∧ Below W.heap.size W (V.alloc (.cells (shL s).toArray 23))) := ⟨hV, hV.alloc hV.size _⟩
    clear HO HR h1 h2 h3 hV
    unfold shL at HAll HV ⊢
    have HB : Hid (Blk (V.alloc (.cells #[.int .i64 s.z, .int .i64 s.zb, .int .i64 s.b, .int .i64 s.r] 23)) V.heap.size [.int .i64 s.z, .int .i64 s.zb, .int .i64 s.b, .int .i64 s.r] 23) := Blk.new' rfl rfl
    go_enter Tryz.func19, Tryz.ntmps19
    go_wp2_with (first
      | (go_at_call 54; refine (HAll.out _ (by first | exact HV.out.1 | exact HV.out.2)).mono ?_; rintro e w1 ⟨p, rfl, bb, g1⟩; have bs1 := HB.out.below bb HB.out.lt; have y0 : w1.cell? ⟨V.heap.size, 0, none⟩ = some (.int .i64 s.z) := bs1.cell 0; have y1 : w1.cell? ⟨V.heap.size, 1, none⟩ = some (.int .i64 s.zb) := bs1.cell 1; have y2 : w1.cell? ⟨V.heap.size, 2, none⟩ = some (.int .i64 s.b) := bs1.cell 2; have y3 : w1.cell? ⟨V.heap.size, 3, none⟩ = some (.int .i64 s.r) := bs1.cell 3)
      | (go_at_call 55; refine g1.mono ?_; rintro e w2 ⟨r, rfl, g2⟩)
      | (go_at_call 44; refine g2.mono ?_; rintro e w3 ⟨ps, rfl, g3⟩)
      | (go_at_call 47; refine g3.mono ?_; rintro e w4 ⟨rs, rfl, g4⟩))
    go_ret2
    exact .inr ⟨hw, ps, rs, rfl, g4⟩
  · have HAll : Hid (∀ V, Below W.heap.size W V → Calls Tryz.prog 54 #[.agg (shL s).toArray, .slice a1 n1 c1] V fun e w1 => e = .returned (.pointer none) ∧ Below V.heap.size V w1 ∧ Calls Tryz.prog 55 #[.agg (shL s).toArray, .slice a1 n1 c1] w1 fun e w2 => e = .returned (.pointer none) ∧ Below W.heap.size W w2) := by
      intro V hV
      have hsV := hV.size
      refine (HO.out V hV).mono ?_
      rintro e w1 ⟨b1, ⟨_, rfl⟩ | ⟨hn, _⟩⟩
      · refine ⟨rfl, b1, (HR.out w1 (hV.trans (b1.mono hsV))).mono ?_⟩
        rintro e w2 ⟨b2, ⟨_, rfl⟩ | ⟨hn, _⟩⟩
        · exact ⟨rfl, (hV.trans (b1.mono hsV)).trans (b2.mono (by have := b1.size; omega))⟩
        · exact (hw hn).elim
      · exact (hw hn).elim
    have HV : Hid (Below W.heap.size W V ∧ Below W.heap.size W (V.alloc (.cells (shL s).toArray 23))) := ⟨hV, hV.alloc hV.size _⟩
    clear HO HR h1 h2 h3 hV
    unfold shL at HAll HV ⊢
    have HB : Hid (Blk (V.alloc (.cells #[.int .i64 s.z, .int .i64 s.zb, .int .i64 s.b, .int .i64 s.r] 23)) V.heap.size [.int .i64 s.z, .int .i64 s.zb, .int .i64 s.b, .int .i64 s.r] 23) := Blk.new' rfl rfl
    go_enter Tryz.func19, Tryz.ntmps19
    go_wp2_with (first
      | (go_at_call 54; refine (HAll.out _ (by first | exact HV.out.1 | exact HV.out.2)).mono ?_; rintro e w1 ⟨rfl, bb, g1⟩; have bs1 := HB.out.below bb HB.out.lt; have y0 : w1.cell? ⟨V.heap.size, 0, none⟩ = some (.int .i64 s.z) := bs1.cell 0; have y1 : w1.cell? ⟨V.heap.size, 1, none⟩ = some (.int .i64 s.zb) := bs1.cell 1; have y2 : w1.cell? ⟨V.heap.size, 2, none⟩ = some (.int .i64 s.b) := bs1.cell 2; have y3 : w1.cell? ⟨V.heap.size, 3, none⟩ = some (.int .i64 s.r) := bs1.cell 3)
      | (go_at_call 55; refine g1.mono ?_; rintro e w2 ⟨rfl, g2⟩))
    go_ret2
    exact .inl ⟨hw, rfl, g2⟩
end Go.Proofs.YtfcbcpjcmihooaaGreat
