/- What one call of the table's Tenant and Check does. -/
import Derived.Test.YtpliokkmiijieaaDoorPNew
namespace Go.Proofs.YtpliokkmiijieaaDoor
open Go.RowKit
set_option linter.unusedVariables false
set_option maxRecDepth 4000

theorem ten0_in (lo : Nat) (w : World) : TenIn lo w ten0L ten0 :=
  ⟨none, 0, 0, none, 0, 0, rfl, ⟨bin_none _, Nat.le_refl _, fun _ => ⟨rfl, rfl⟩, fun _ h => by cases h⟩, ⟨⟨rfl, Nat.zero_le _, by simp [ten0], .inl rfl⟩, Nat.le_refl _, fun _ => ⟨rfl, rfl⟩, fun _ h => by cases h⟩, by unfold Ten.Fits ten0 Fits32; simp⟩
/-- What a look-up in the table's map gives. -/
theorem look_any {lo : Nat} {w : World} {b n : Nat} {ts : List Ten} {id : Int} (h : MapIn lo w b n ts) (hid : Fits32 id) :
    ∃ t ka kn kc ga gn gc, t = (findT ts id).getD ten0 ∧ TenIn lo w (tenL t ka kn kc ga gn gc) t ∧ (Instr.lookup 70 (.map (some b)) (.int .u32 id) true).run Tryd.prog w = .ok (.tuple #[.agg (tenL t ka kn kc ga gn gc).toArray, .bool (findT ts id).isSome]) w := by
  cases hf : findT ts id with
  | none => exact ⟨ten0, none, 0, 0, none, 0, 0, rfl, ten0_in _ _, look_none h hid hf⟩
  | some t =>
    obtain ⟨L, hT, hr⟩ := look_some h hid hf
    obtain ⟨ka, kn, kc, ga, gn, gc, hL, _⟩ := _root_.id hT
    subst hL
    exact ⟨t, ka, kn, kc, ga, gn, gc, rfl, hT, hr⟩
/-- .. and so it does as long as the map and the tenants' lists stay. -/
theorem look_all {lo : Nat} {w : World} {b n : Nat} {ts : List Ten} {id : Int} (h : MapIn lo w b n ts) (hid : Fits32 id) (hb : lo ≤ b) :
    ∃ t ka kn kc ga gn gc, t = (findT ts id).getD ten0 ∧ TenIn lo w (tenL t ka kn kc ga gn gc) t ∧ ∀ w', Keeps lo w w' → (Instr.lookup 70 (.map (some b)) (.int .u32 id) true).run Tryd.prog w' = .ok (.tuple #[.agg #[.int .u32 t.id, .slice ka kn kc, .int .u64 t.quota, .int .u64 t.size, .slice ga gn gc], .bool (findT ts id).isSome]) w' := by
  cases hf : findT ts id with
  | none => exact ⟨ten0, none, 0, 0, none, 0, 0, rfl, ten0_in _ _, fun w' hk => look_none (h.keeps hk hb) hid hf⟩
  | some t =>
    obtain ⟨D, hown, hall⟩ := h
    obtain ⟨hh, L, hL, hT⟩ := (hall id hid).2 t hf
    obtain ⟨ka, kn, kc, ga, gn, gc, hLe, _⟩ := _root_.id hT
    subst hLe
    refine ⟨t, ka, kn, kc, ga, gn, gc, rfl, hT, fun w' hk => ?_⟩
    obtain ⟨v, ps, hrun, hv⟩ := (owns_same hown (hk b hb hown.lt)).look_ok Tryd.key_law Tryd.underlying70 (Tryd.zero_tenant w') (zd := .held (.agg ten0L.toArray)) (zp := []) rfl (key_id hid)
    rw [hL] at hv
    have hv' : (DataW.held v, ([] : List MemPlace)) = (.held (.agg (tenL t ka kn kc ga gn gc).toArray), ps) := Option.some.inj hv
    have : v = .agg (tenL t ka kn kc ga gn gc).toArray := by injection hv' with h1 _; injection h1
    rw [hrun, hh, this]
    rfl
theorem ten_parts {lo : Nat} {w : World} {t : Ten} {ka : Option Addr} {kn kc : Nat} {ga : Option Addr} {gn gc : Nat} (h : TenIn lo w (tenL t ka kn kc ga gn gc) t) :
    (BIn w ka kn t.key ∧ kn ≤ kc ∧ (ka = none → kn = 0 ∧ kc = 0) ∧ Lo lo ka) ∧ (UIn w ga gn t.gone ∧ gn ≤ gc ∧ (ga = none → gn = 0 ∧ gc = 0) ∧ Lo lo ga) ∧ t.Fits := by
  obtain ⟨ka', kn', kc', ga', gn', gc', hL, h1, h2, h3⟩ := h
  simp only [tenL, List.cons.injEq, Value.slice.injEq, and_true, true_and] at hL
  obtain ⟨⟨rfl, rfl, rfl⟩, rfl, rfl, rfl⟩ := hL
  exact ⟨h1, h2, h3⟩
def Small (t : Ten) : Prop := t.key.length ≤ 1000 ∧ t.gone.length ≤ 1000
theorem small_find {ts : List Ten} (h : ∀ t ∈ ts, Small t) (id : Int) : Small ((findT ts id).getD ten0) := by
  cases hf : findT ts id with
  | none => exact ⟨by decide, by decide⟩
  | some t => exact h t (find_mem hf).1

set_option maxHeartbeats 1000000 in
theorem tenant_of (lo : Nat) (p : Value) (ts : List Ten) (id : Int) (w : World) (h : TabIn lo w p ts) (hid : Fits32 id) (hs : ∀ t ∈ ts, Small t) :
    Calls Tryd.prog 20 #[p, .int .u32 id] w fun e w' => ∃ L', e = .returned (.tuple #[.agg L'.toArray, .bool (findT ts id).isSome]) ∧ TenIn w.heap.size w' L' ((findT ts id).getD ten0) ∧ Below w.heap.size w w' := by
  obtain ⟨q, hq⟩ : ∃ q, q = w.heap.size := ⟨_, rfl⟩
  obtain ⟨g, b, n, hp, h1, h2, h3, h4⟩ := h
  subst hp
  have bw : Below w.heap.size w (w.alloc (.cells #[.int .u32 0, .slice none 0 0, .int .u64 0, .int .u64 0, .slice none 0 0] 49)) := (Below.refl _ _).alloc (Nat.le_refl _) _
  obtain ⟨t, ka, kn, kc, ga, gn, gc, ht, hT, hrun⟩ := look_any (h4.keeps (Keeps.of_below bw) h2) hid
  have hc := cell_keep h3 bw (old_block h3)
  obtain ⟨B, hB⟩ : ∃ B, B = (findT ts id).isSome := ⟨_, rfl⟩
  rw [← hB] at hrun ⊢
  have H : Hid (q = w.heap.size ∧ t = (findT ts id).getD ten0 ∧ Small t) := ⟨hq, ht, by rw [ht]; exact small_find hs id⟩
  rw [← ht]
  clear h1 h2 h3 h4 hs ht hB
  rw [← hq] at bw ⊢
  have b0 : Blk (w.alloc (.cells #[.int .u32 0, .slice none 0 0, .int .u64 0, .int .u64 0, .slice none 0 0] 49)) q ten0L 49 := Blk.new' hq.symm rfl
  have sv : (w.alloc (.cells #[.int .u32 0, .slice none 0 0, .int .u64 0, .int .u64 0, .slice none 0 0] 49)).heap.size = q + 1 := by simp [hq]
  go_enter Tryd.func20, Tryd.ntmps20
  go_upto_region 1 with fail
  generalize hV : World.alloc w _ = V at hT hrun hc b0 sv bw ⊢
  rw [← hq]
  have HS : Hid (V.heap.size = q + 1 ∧ Blk V q ten0L 49 ∧ Below q w V ∧ TenIn lo V (tenL t ka kn kc ga gn gc) t) := ⟨sv, b0, bw, hT⟩
  clear sv hV hq b0 bw hT
  go_upto_region 2 with (refine wpList_store_mid rfl 49 (.tmp 6) (.tmp 15) rfl V.heap.size 0 (tenL t ka kn kc ga gn gc).toArray rfl rfl ?hT (ten_size _ _ _ _ _ _ _) (ten_all _ _ _ _ _ _ _) ?_; (case hT => exact ten_there _))
  generalize hU : World.setCells _ _ _ _ = U
  have pu : Blk U V.heap.size (tenL t ka kn kc ga gn gc) 49 ∧ Below V.heap.size V U := by
    rw [← hU]
    exact ⟨(Blk.new' (L := ten0L) rfl rfl).setAll (by rfl), below_setCells (Nat.le_refl _) _ _ _ ((Below.refl _ _).alloc (Nat.le_refl _) _)⟩
  obtain ⟨u0, u1⟩ := pu
  have HU : Hid (Blk U q ten0L 49 ∧ Below q w U ∧ q ≤ U.heap.size) := by
    have hs := HS.out.1
    exact ⟨HS.out.2.1.below u1 (by omega), HS.out.2.2.1.trans (u1.mono (by omega)), by have := u1.size; omega⟩
  have CC := copied_of lo (tenL t ka kn kc ga gn gc) t U (HS.out.2.2.2.below u1) H.out.2.2.1 H.out.2.2.2
  clear hU u1 hrun hc
  go_upto_region 2 with fail
  go_wp2_with (first
    | (refine wpList_load_mid rfl 49 (.tmp 6) rfl V.heap.size 0 rfl _ _ u0.whole Tryd.underlying49 rfl Tryd.info_tenant ?_)
    | (go_at_call 34; refine CC.mono ?_; rintro e w2 ⟨L2, rfl, hT2, b2⟩; obtain ⟨ka2, kn2, kc2, ga2, gn2, gc2, hL2, _⟩ := _root_.id hT2; subst hL2; have r2 := HU.out.1.below b2 HU.out.1.lt)
    | (refine wpList_store_mid rfl 49 (.tmp 4) (.tmp 18) rfl q 0 (tenL t ka2 kn2 kc2 ga2 gn2 gc2).toArray rfl rfl ?hT (ten_size _ _ _ _ _ _ _) (ten_all _ _ _ _ _ _ _) ?_; (case hT => exact r2.there 0 5 (by decide))))
  have b3 := r2.setAll (vs := tenL t ka2 kn2 kc2 ga2 gn2 gc2) (by rfl)
  refine bodyPost_ret (v := .tuple #[.agg (tenL t ka2 kn2 kc2 ga2 gn2 gc2).toArray, .bool B]) (results_cell_two (p := 4) (u := 5) (ty := 49) rfl _ _ q _ _ _ rfl b3 Tryd.underlying49 rfl Tryd.info_tenant _ rfl) rfl ⟨_, rfl, ?_, ?_⟩
  · refine (hT2.keeps (fun x hx hlt => World.heap_setCells_other w2 q 0 _ hlt ?_)).lower HU.out.2.2
    have := HU.out.1.lt
    omega
  · exact below_setCells (Nat.le_refl _) _ _ _ (HU.out.2.1.trans (b2.mono HU.out.2.2))

theorem tok_there (w : World) : (w.alloc (.cells #[.int .u32 0, .int .u32 0, .bool false, .int .u64 0] 26)).there w.heap.size 0 4 :=
  (Blk.new' (L := tokL tok0) rfl rfl).there 0 _ (by decide)
theorem tok_all (k : Tok) : (tokL k).toArray.all (·.oneCell') = true := all_oneCell_toArray (tokL_one _)
theorem tok_size (k : Tok) : (Tryd.prog.info? 26).map (·.size) = some (tokL k).toArray.size := Tryd.info_token
theorem check_is (t : Ten) (cs : List Int) : checkT (some t) cs = if ofI t.key (lookB cs) ≠ lookG cs then (tok0, 52) else if refE t (lookI cs) = 0 then (lookI cs, 0) else (tok0, refE t (lookI cs)) := by
  unfold checkT refE
  dsimp only
  by_cases h1 : ofI t.key (lookB cs) ≠ lookG cs
  · rw [if_pos h1, if_pos h1]
  · rw [if_neg h1, if_neg h1]
    by_cases h2 : (lookI cs).serial ∈ t.gone
    · rw [if_pos h2, if_pos h2, if_neg (by decide)]
    · rw [if_neg h2, if_neg h2]
      by_cases h3 : (lookI cs).size = 0 ∨ t.size < (lookI cs).size
      · rw [if_pos h3, if_pos h3, if_neg (by decide)]
      · rw [if_neg h3, if_neg h3, if_pos rfl]
theorem refEis (t : Ten) (k : Tok) : refE t k = 53 ∨ refE t k = 54 ∨ refE t k = 0 := by
  unfold refE
  split
  · exact .inl rfl
  · split
    · exact .inr (.inl rfl)
    · exact .inr (.inr rfl)

/-- The end of Check: a token that is not given. -/
theorem check_bad (s : ByteArray) (cs : List Int) (n : Nat) (p : Value) (w : World) (hs : s = strOfNums cs) (hf : ∀ z ∈ cs, Fits8 z) (hl : cs.length = n) (hn : n ≤ 100000) (hg : ¬ Good cs) :
    Calls Tryd.prog 18 #[p, .string s] w fun e w' => e = .returned (.tuple #[tokV tok0, .int .u16 50]) ∧ Below w.heap.size w w' := by
  obtain ⟨q, hq⟩ : ∃ q, q = w.heap.size := ⟨_, rfl⟩
  rw [← hq]
  have C := fun o => parts_bad s cs n (w.alloc o) hs hf hl hn hg
  simp only [World.size_alloc, ← hq] at C
  clear hs hf hl hg
  go_enter Tryd.func18, Tryd.ntmps18
  go_wp2_with fail
  refine (C _).mono ?_
  rintro e w1 ⟨rfl, b1⟩
  clear C
  rw [← hq]
  have HB : Hid (Blk w1 q (tokL tok0) 26 ∧ Below q w w1) := ⟨(Blk.new' (L := tokL tok0) hq.symm rfl).below b1 (by omega), ((Below.refl q w).alloc (by omega) _).trans (b1.mono (by omega))⟩
  clear b1 hq
  go_wp2_with (refine wpList_store_mid rfl 26 (.tmp 4) (.tmp 22) rfl q 0 (tokL tok0).toArray rfl rfl ?hT (tok_size _) (tok_all _) ?_; (case hT => exact HB.out.1.there 0 4 (by decide)))
  have b3 := HB.out.1.setAll (vs := tokL tok0) (by rfl)
  refine bodyPost_ret (v := .tuple #[.agg (tokL tok0).toArray, .int .u16 50]) (results_cell_two (p := 4) (u := 5) (ty := 26) rfl _ _ q _ _ _ rfl b3 Tryd.underlying26 rfl Tryd.info_token _ rfl) rfl ⟨rfl, ?_⟩
  exact below_setCells (Nat.le_refl _) _ _ _ HB.out.2

set_option maxHeartbeats 2000000 in
theorem check_good (lo : Nat) (p : Value) (ts : List Ten) (s : ByteArray) (cs : List Int) (n : Nat) (w : World) (h : TabIn lo w p ts) (hG : GIn w) (hs : s = strOfNums cs) (hf : ∀ z ∈ cs, Fits8 z) (hl : cs.length = n) (hn : n ≤ 100000) (hg : Good cs) (hsm : ∀ t ∈ ts, Small t) :
    Calls Tryd.prog 18 #[p, .string s] w fun e w' => ∃ r, r = checkT (findT ts (lookI cs).tenant) cs ∧ e = .returned (.tuple #[tokV r.1, .int .u16 r.2]) ∧ Below w.heap.size w w' := by
  obtain ⟨q, hq⟩ : ∃ q, q = w.heap.size := ⟨_, rfl⟩
  rw [← hq]
  obtain ⟨K, hK⟩ : ∃ K, K = lookI cs := ⟨_, rfl⟩
  have hKe : K = tokI (lookB cs) := by rw [hK]; unfold lookI; rw [if_pos hg]
  have hgb := good_body hg
  obtain ⟨O, hO⟩ : ∃ O, O = findT ts K.tenant := ⟨_, rfl⟩
  have H : Hid (q = w.heap.size ∧ TabIn lo w p ts ∧ GIn w ∧ K = lookI cs ∧ K = tokI (lookB cs) ∧ (∀ t ∈ ts, Small t) ∧ K.Fits ∧ Good cs ∧ O = findT ts K.tenant) := ⟨hq, h, hG, hK, hKe, hsm, by rw [hKe]; exact tokI_fits hgb.1 hgb.2.2.1, hg, hO⟩
  rw [← hK, ← hO]
  obtain ⟨R, hR⟩ : ∃ R, R = checkT O cs := ⟨_, rfl⟩
  rw [← hR]
  have HR : Hid (R = checkT O cs) := hR
  have C := fun o => parts_good s cs n (w.alloc o) hs hf hl hn hg
  simp only [World.size_alloc, ← hq] at C
  obtain ⟨g, b, m, hp, h1, h2, h3, h4⟩ := h
  subst hp
  have HT : Hid (lo ≤ g ∧ lo ≤ b ∧ w.cell? ⟨g, 0, none⟩ = some (.map (some b)) ∧ MapIn lo w b m ts) := ⟨h1, h2, h3, h4⟩
  clear hs hf hl hg hK hKe hO hR hsm hgb hG h1 h2 h3 h4
  go_enter Tryd.func18, Tryd.ntmps18
  go_wp2_with fail
  refine (C _).mono ?_
  rintro e w1 ⟨bb, off, c, rfl, hc, hb, b1⟩
  clear C
  rw [← hq]
  have HB : Hid (Blk w1 q (tokL tok0) 26 ∧ Below q w w1 ∧ 50 ≤ c ∧ BIn w1 (some ⟨bb, off, none⟩) 18 (lookB cs) ∧ BIn w1 (some ⟨bb, off + 18, none⟩) 32 (lookG cs) ∧ q < w1.heap.size) := by
    refine ⟨(Blk.new' (L := tokL tok0) hq.symm rfl).below b1 (by omega), ((Below.refl q w).alloc (by omega) _).trans (b1.mono (by omega)), hc, ?_, ?_, ?_⟩
    · have := hb.part 0 18 (by omega)
      rw [Nat.add_zero, List.drop_zero] at this
      exact this
    · have := hb.part 18 32 (by omega)
      rw [List.take_of_length_le (by rw [List.length_drop, hb.1]; omega)] at this
      exact this
    · have := b1.size; simp at this; omega
  have HCc : Hid (50 ≤ c) := hc
  clear hb b1 hc hq
  have T := tokenOf_of bb off c (lookB cs) w1 HB.out.2.2.2.1 (by have := HB.out.2.2.1; omega)
  rw [← H.out.2.2.2.2.1] at T
  go_upto_region 5 with (first
    | (go_at_call 30; refine T.mono ?_; rintro e w2 ⟨rfl, b2⟩)
    | (refine wpList_store_mid rfl 26 (.tmp 9) (.tmp 25) rfl w2.heap.size 0 (tokL K).toArray rfl rfl ?hT (tok_size _) (tok_all _) ?_; (case hT => exact tok_there _)))
  generalize hU : World.setCells _ _ _ _ = U
  obtain ⟨g9, hg9⟩ : ∃ g9, g9 = w2.heap.size := ⟨_, rfl⟩
  rw [← hg9]
  have HU : Hid (Blk U q (tokL tok0) 26 ∧ Blk U g9 (tokL K) 26 ∧ Below q w U ∧ BIn U (some ⟨bb, off, none⟩) 18 (lookB cs) ∧ BIn U (some ⟨bb, off + 18, none⟩) 32 (lookG cs) ∧ q < g9 ∧ U.heap.size = g9 + 1) := by
    have hs2 := b2.size
    have hq1 := HB.out.2.2.2.2.2
    have bu : Below w2.heap.size w2 U := by rw [← hU]; exact below_setCells (Nat.le_refl _) _ _ _ ((Below.refl _ _).alloc (Nat.le_refl _) _)
    have sz : U.heap.size = g9 + 1 := by rw [← hU, size_setCells']; simp [hg9]
    have bk : Blk U g9 (tokL K) 26 := by rw [← hU, hg9]; exact (Blk.new' (L := tokL tok0) rfl rfl).setAll (by rfl)
    exact ⟨(HB.out.1.below b2 hq1).below bu (by omega), bk, HB.out.2.1.trans ((b2.mono (by omega)).trans (bu.mono (by omega))), (HB.out.2.2.2.1.below b2).below bu, (HB.out.2.2.2.2.1.below b2).below bu, by omega, sz⟩
  clear hU hg9 b2 T HB
  have bw : Below w.heap.size w U := by rw [← H.out.1]; exact HU.out.2.2.1
  have k0 : U.cell? ⟨g9, 0, none⟩ = some (.int .u32 K.tenant) := HU.out.2.1.cell 0
  have m0 : U.cell? ⟨g, 0, none⟩ = some (.map (some b)) := cell_keep HT.out.2.2.1 bw (old_block HT.out.2.2.1)
  obtain ⟨t, ka, kn, kc, ga, gn, gc, ht, hTt, hrun⟩ := look_all (w := U) (HT.out.2.2.2.keeps (Keeps.of_below bw) HT.out.2.1) H.out.2.2.2.2.2.2.1.1 HT.out.2.1
  rw [← H.out.2.2.2.2.2.2.2.2] at ht hrun
  have HTt : Hid (t = O.getD ten0 ∧ TenIn lo U (tenL t ka kn kc ga gn gc) t) := ⟨ht, hTt⟩
  obtain ⟨B, hB⟩ : ∃ B, B = O.isSome := ⟨_, rfl⟩
  rw [← hB] at hrun
  have HB : Hid (B = O.isSome) := hB
  have kd : ∀ o, Below U.heap.size U (U.drew.alloc o) := fun o => ((Below.refl _ _).drew).alloc (Nat.le_refl _) _
  have a1 : ∀ o, (U.drew.alloc o).cell? ⟨g, 0, none⟩ = some (.map (some b)) := fun o => cell_keep m0 (kd o) (old_block m0)
  have a2 : ∀ o, (U.drew.alloc o).cell? ⟨g9, 0, none⟩ = some (.int .u32 K.tenant) := fun o => cell_keep k0 (kd o) (old_block k0)
  have a3 := fun o => hrun (U.drew.alloc o) (Keeps.of_below (kd o))
  have a0 := hrun U.drew (Keeps.of_below ((Below.refl _ _).drew))
  have m1 : U.drew.cell? ⟨g, 0, none⟩ = some (.map (some b)) := m0
  have k1 : U.drew.cell? ⟨g9, 0, none⟩ = some (.int .u32 K.tenant) := k0
  clear ht hTt bw hB hrun kd m0 k0
  go_region_held3 (fun w' => w'.cell? ⟨g, 0, none⟩ = some (.map (some b)) ∧ w'.cell? ⟨g9, 0, none⟩ = some (.int .u32 K.tenant) ∧ (Instr.lookup 70 (.map (some b)) (.int .u32 K.tenant) true).run Tryd.prog w' = .ok (.tuple #[.agg #[.int .u32 t.id, .slice ka kn kc, .int .u64 t.quota, .int .u64 t.size, .slice ga gn gc], .bool B]) w')
    ((go_split_ands; (repeat' apply And.intro) <;> first | assumption | exact a1 _ | exact a2 _ | exact a3 _))
    ((fail))
  all_goals (
    generalize hV : World.drew _ = V
    obtain ⟨g10, hg10⟩ : ∃ g10, g10 = U.heap.size := ⟨_, rfl⟩
    rw [← hg10]
    have HV : Hid (Blk V q (tokL tok0) 26 ∧ Blk V g9 (tokL K) 26 ∧ Blk V g10 (tenL t ka kn kc ga gn gc) 49 ∧ Below q w V ∧ BIn V (some ⟨bb, off, none⟩) 18 (lookB cs) ∧ BIn V (some ⟨bb, off + 18, none⟩) 32 (lookG cs) ∧ q < g9 ∧ g9 < g10 ∧ V.heap.size = g10 + 1 ∧ TenIn lo V (tenL t ka kn kc ga gn gc) t) := by
      have hs := HU.out.2.2.2.2.2.2
      have hl := HU.out.2.2.2.2.2.1
      have bu : Below U.heap.size U V := by rw [← hV]; exact ((Below.refl _ _).alloc (Nat.le_refl _) _).drew
      have bk : Blk V g10 (tenL t ka kn kc ga gn gc) 49 := by rw [← hV]; exact (Blk.new' (L := tenL t ka kn kc ga gn gc) hg10.symm rfl).drew
      have sz : V.heap.size = g10 + 1 := by rw [← hV, hg10]; simp [World.drew]
      exact ⟨HU.out.1.below bu (by omega), HU.out.2.1.below bu (by omega), bk, HU.out.2.2.1.trans (bu.mono (by omega)), HU.out.2.2.2.1.below bu, HU.out.2.2.2.2.1.below bu, hl, by omega, sz, HTt.out.2.below bu⟩
    have HT0 : Hid (t = O.getD ten0) := HTt.out.1
    clear hV hg10 HU HTt a0 a1 a2 a3 m1 k1
    cases O with
    | none =>
      have hB : B = false := HB.out
      subst hB
      go_wp2_with (refine wpList_store_mid rfl 26 (.tmp 4) (.tmp 38) rfl q 0 (tokL tok0).toArray rfl rfl ?hT (tok_size _) (tok_all _) ?_; (case hT => exact HV.out.1.there 0 4 (by decide)))
      have b3 := HV.out.1.setAll (vs := tokL tok0) (by rfl)
      refine bodyPost_ret (v := .tuple #[.agg (tokL tok0).toArray, .int .u16 51]) (results_cell_two (p := 4) (u := 5) (ty := 26) rfl _ _ q _ _ _ rfl b3 Tryd.underlying26 rfl Tryd.info_token _ rfl) rfl ⟨R, rfl, ?_, ?_⟩
      · rw [HR.out]; rfl
      · exact below_setCells (Nat.le_refl _) _ _ _ HV.out.2.2.2.1
    | some t' =>
      have hB : B = true := HB.out
      subst hB
      obtain rfl : t = t' := HT0.out
      have hKs := HV.out.2.2.2.2.2.2.2.2.2
      have hpt := ten_parts hKs
      have hGV : GIn V := H.out.2.2.1.below (B := w.heap.size) (by rw [← H.out.1]; exact HV.out.2.2.2.1) H.out.2.2.1.lt
      have hsm := H.out.2.2.2.2.2.1 t (find_mem H.out.2.2.2.2.2.2.2.2.symm).1
      have e1 : V.cell? ⟨g10, 1, none⟩ = some (.slice ka kn kc) := HV.out.2.2.1.cell 1
      obtain ⟨D, hD⟩ : ∃ D, D = ofI t.key (lookB cs) := ⟨_, rfl⟩
      have HD : Hid (D = ofI t.key (lookB cs) ∧ D.length = 32 ∧ (∀ z ∈ D, Fits8 z)) := ⟨hD, by rw [hD, ofI_length], by rw [hD]; exact sumI_fits _⟩
      have hid : (Tryd.prog.info? 59).map (·.size) = some (u8s D).toArray.size := by simp only [List.size_toArray]; rw [u8s_length, HD.out.2.1]; exact Tryd.info_tag
      have O1 := of_of ka kn kc t.key (some ⟨V.heap.size, 0, none⟩) 1 1 (fun _ => lookB cs) (V.alloc (.cells #[.slice (some ⟨bb, off, none⟩) 18 c] 22)) (hGV.alloc _) (hpt.1.1.alloc _) (by have := hsm.1; rw [hpt.1.1.1] at this; omega) hpt.1.2.1 (one_ps rfl HV.out.2.2.2.2.1 (by have := HCc.out; omega) (fun h => by cases h)) (by omega) (fun r _ => by show (lookB cs).length ≤ _; rw [HV.out.2.2.2.2.1.1]; omega)
      rw [join_one, ← HD.out.1] at O1
      have HS : Hid (Small t) := hsm
      clear hKs hpt hGV hD hsm
      go_upto_region 9 with (first
        | (go_at_call 24; refine O1.mono ?_; rintro e w3 ⟨rfl, b3⟩)
        | (refine wpList_store_mid rfl 59 (.tmp 12) (.tmp 43) rfl w3.heap.size 0 (u8s D).toArray rfl rfl ?hT hid (all_oneCell_toArray (u8s_one _)) ?_; (case hT => exact (Blk.new' (L := u8s (List.replicate 32 0)) rfl (by kernel_rfl)).there 0 _ (by simp [u8s_length, HD.out.2.1]))))
      generalize hX : World.setCells _ _ _ _ = X
      obtain ⟨g12, hg12⟩ : ∃ g12, g12 = w3.heap.size := ⟨_, rfl⟩
      rw [← hg12]
      have HX : Hid (Blk X q (tokL tok0) 26 ∧ Blk X g9 (tokL K) 26 ∧ Blk X g10 (tenL t ka kn kc ga gn gc) 49 ∧ Below q w X ∧ BIn X (some ⟨g12, 0, none⟩) 32 D ∧ BIn X (some ⟨bb, off + 18, none⟩) 32 (lookG cs) ∧ TenIn lo X (tenL t ka kn kc ga gn gc) t ∧ q ≤ X.heap.size) := by
        have hs := HV.out.2.2.2.2.2.2.2.2.1
        have h9 := HV.out.2.2.2.2.2.2.1
        have h10 := HV.out.2.2.2.2.2.2.2.1
        have bv : Below V.heap.size V w3 := ((Below.refl _ _).alloc (Nat.le_refl _) _).trans (b3.mono (by simp))
        have hs3 := bv.size
        have bx : Below w3.heap.size w3 X := by rw [← hX]; exact below_setCells (Nat.le_refl _) _ _ _ ((Below.refl _ _).alloc (Nat.le_refl _) _)
        have bvx : Below V.heap.size V X := bv.trans (bx.mono hs3)
        have hb := (Blk.new' (w := w3) (t := 59) (L := u8s (List.replicate 32 0)) (C := (u8s (List.replicate 32 0)).toArray) hg12.symm rfl).setAll (vs := u8s D) (by simp [u8s_length, HD.out.2.1])
        have hbin := Blk.bin hb HD.out.2.2 (by rw [HD.out.2.1]; unfold maxLen; omega)
        rw [HD.out.2.1] at hbin
        have hbX : BIn X (some ⟨g12, 0, none⟩) 32 D := by rw [← hX, ← hg12]; exact hbin
        exact ⟨HV.out.1.below bvx (by omega), HV.out.2.1.below bvx (by omega), HV.out.2.2.1.below bvx (by omega), HV.out.2.2.2.1.trans (bvx.mono (by omega)), hbX, HV.out.2.2.2.2.2.1.below bvx, HV.out.2.2.2.2.2.2.2.2.2.below bvx, by have := bvx.size; omega⟩
      clear hX hg12 b3 O1 HV e1
      have hsl := fun w => run_whole (P := Tryd.prog) Tryd.underlying59 Tryd.byte1 w g12 0 (by omega)
      have S1 := same_of (some ⟨g12, 0, none⟩) 32 32 D (some ⟨bb, off + 18, none⟩) 32 (c - 18) (lookG cs) X HX.out.2.2.2.2.1 HX.out.2.2.2.2.2.1 (by omega) (by omega)
      by_cases hDe : D = lookG cs
      · have hd : decide (D = lookG cs) = true := by simpa using hDe
        rw [hd] at S1
        have f9 := HX.out.2.1
        have f10 := HX.out.2.2.1
        have RF := refusal_of lo (tenL t ka kn kc ga gn gc) t K X HX.out.2.2.2.2.2.2.1 H.out.2.2.2.2.2.2.1 HS.out.2
        have hc := check_is t cs
        rw [← HD.out.1, if_neg (fun h => h hDe), ← H.out.2.2.2.1] at hc
        obtain ⟨E, hE⟩ : ∃ E, E = refE t K := ⟨_, rfl⟩
        rw [← hE] at RF hc
        have hEv : E = 53 ∨ E = 54 ∨ E = 0 := by rw [hE]; exact refEis t K
        have HC : Hid (R = if E = 0 then (K, 0) else (tok0, E)) := by show R = _; rw [HR.out, hc]
        clear hd hE hc hDe
        go_upto_region 11 with (go_at_call 35; refine S1.mono ?_; rintro e X ⟨rfl, rfl⟩)
        go_upto_region 12 with (first
          | (refine wpList_load_mid rfl 49 (.tmp 10) rfl g10 0 rfl _ _ f10.whole Tryd.underlying49 rfl Tryd.info_tenant ?_)
          | (refine wpList_load_mid rfl 26 (.tmp 9) rfl g9 0 rfl _ _ f9.whole Tryd.underlying26 rfl Tryd.info_token ?_)
          | (go_at_call 36; refine RF.mono ?_; rintro e w4 ⟨rfl, b4⟩))
        have HW : Hid (Blk w4 q (tokL tok0) 26 ∧ Below q w w4) := ⟨HX.out.1.below b4 HX.out.1.lt, HX.out.2.2.2.1.trans (b4.mono HX.out.2.2.2.2.2.2.2)⟩
        have q9 := f9.below b4 f9.lt
        clear b4 RF S1 hsl f9 f10 HX
        have hbad : ∀ (F : Int), F ≠ 0 → E = F → R = (tok0, F) := fun F h0 he => by rw [HC.out, he, if_neg h0]
        have hgood : E = 0 → R = (K, 0) := fun he => by rw [HC.out, if_pos he]
        clear HC HR
        rcases hEv with rfl | rfl | rfl
        · have HQ : Hid (R = (tok0, 53)) := hbad 53 (by decide) rfl
          clear hbad hgood q9
          go_wp2_with (refine wpList_store_mid rfl 26 (.tmp 4) (.tmp 54) rfl q 0 (tokL tok0).toArray rfl rfl ?hT (tok_size _) (tok_all _) ?_; (case hT => exact HW.out.1.there 0 4 (by decide)))
          have b3 := HW.out.1.setAll (vs := tokL tok0) (by rfl)
          refine bodyPost_ret (v := .tuple #[.agg (tokL tok0).toArray, .int .u16 53]) (results_cell_two (p := 4) (u := 5) (ty := 26) rfl _ _ q _ _ _ rfl b3 Tryd.underlying26 rfl Tryd.info_token _ rfl) rfl ⟨R, rfl, ?_, ?_⟩
          · rw [HQ.out]; rfl
          · exact below_setCells (Nat.le_refl _) _ _ _ HW.out.2
        · have HQ : Hid (R = (tok0, 54)) := hbad 54 (by decide) rfl
          clear hbad hgood q9
          go_wp2_with (refine wpList_store_mid rfl 26 (.tmp 4) (.tmp 54) rfl q 0 (tokL tok0).toArray rfl rfl ?hT (tok_size _) (tok_all _) ?_; (case hT => exact HW.out.1.there 0 4 (by decide)))
          have b3 := HW.out.1.setAll (vs := tokL tok0) (by rfl)
          refine bodyPost_ret (v := .tuple #[.agg (tokL tok0).toArray, .int .u16 54]) (results_cell_two (p := 4) (u := 5) (ty := 26) rfl _ _ q _ _ _ rfl b3 Tryd.underlying26 rfl Tryd.info_token _ rfl) rfl ⟨R, rfl, ?_, ?_⟩
          · rw [HQ.out]; rfl
          · exact below_setCells (Nat.le_refl _) _ _ _ HW.out.2
        · have HQ : Hid (R = (K, 0)) := hgood rfl
          clear hbad hgood
          go_wp2_with (first
            | (refine wpList_load_mid rfl 26 (.tmp 9) rfl g9 0 rfl _ _ q9.whole Tryd.underlying26 rfl Tryd.info_token ?_)
            | (refine wpList_store_mid rfl 26 (.tmp 4) (.tmp 56) rfl q 0 (tokL K).toArray rfl rfl ?hT (tok_size _) (tok_all _) ?_; (case hT => exact HW.out.1.there 0 4 (by decide))))
          have b3 := HW.out.1.setAll (vs := tokL K) (by rfl)
          refine bodyPost_ret (v := .tuple #[.agg (tokL K).toArray, .int .u16 0]) (results_cell_two (p := 4) (u := 5) (ty := 26) rfl _ _ q _ _ _ rfl b3 Tryd.underlying26 rfl Tryd.info_token _ rfl) rfl ⟨R, rfl, ?_, ?_⟩
          · rw [HQ.out]; rfl
          · exact below_setCells (Nat.le_refl _) _ _ _ HW.out.2
      · have hd : decide (D = lookG cs) = false := by simpa using hDe
        rw [hd] at S1
        have hc := check_is t cs
        rw [← HD.out.1, if_pos hDe] at hc
        have HC : Hid (R = (tok0, 52)) := by show R = _; rw [HR.out, hc]
        clear hd hc hDe
        go_wp2_with (first
          | (go_at_call 35; refine S1.mono ?_; rintro e X ⟨rfl, rfl⟩)
          | (refine wpList_store_mid rfl 26 (.tmp 4) (.tmp 48) rfl q 0 (tokL tok0).toArray rfl rfl ?hT (tok_size _) (tok_all _) ?_; (case hT => exact HX.out.1.there 0 4 (by decide))))
        have b3 := HX.out.1.setAll (vs := tokL tok0) (by rfl)
        refine bodyPost_ret (v := .tuple #[.agg (tokL tok0).toArray, .int .u16 52]) (results_cell_two (p := 4) (u := 5) (ty := 26) rfl _ _ q _ _ _ rfl b3 Tryd.underlying26 rfl Tryd.info_token _ rfl) rfl ⟨R, rfl, ?_, ?_⟩
        · rw [HC.out]; rfl
        · exact below_setCells (Nat.le_refl _) _ _ _ HX.out.2.2.2.1)

theorem check_of (lo : Nat) (p : Value) (ts : List Ten) (s : ByteArray) (cs : List Int) (n : Nat) (w : World) (h : TabIn lo w p ts) (hG : GIn w) (hs : s = strOfNums cs) (hf : ∀ z ∈ cs, Fits8 z) (hl : cs.length = n) (hn : n ≤ 100000) (hsm : ∀ t ∈ ts, Small t) :
    Calls Tryd.prog 18 #[p, .string s] w fun e w' => e = .returned (.tuple #[tokV (checkI ts cs).1, .int .u16 (checkI ts cs).2]) ∧ Below w.heap.size w w' := by
  by_cases hg : Good cs
  · refine (check_good lo p ts s cs n w h hG hs hf hl hn hg hsm).mono ?_
    rintro e w' ⟨r, hr, he, hb⟩
    unfold checkI
    rw [if_pos hg, ← hr]
    exact ⟨he, hb⟩
  · refine (check_bad s cs n p w hs hf hl hn hg).mono ?_
    rintro e w' ⟨he, hb⟩
    unfold checkI
    rw [if_neg hg]
    exact ⟨he, hb⟩
end Go.Proofs.YtpliokkmiijieaaDoor
