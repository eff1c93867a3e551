/- A list of tenants and a table in the world; what one call of refusal and of New does. -/
import Derived.Test.YtpliokkmiijieaaDoorPMap
import Derived.Deep.RegionHeld3
namespace Go.Proofs.YtpliokkmiijieaaDoor
open Go.RowKit
set_option linter.unusedVariables false
set_option maxRecDepth 4000

/-- Why a tenant does not allow a token that it made. -/
def refE (t : Ten) (k : Tok) : Int := if k.serial ∈ t.gone then 53 else if k.size = 0 ∨ t.size < k.size then 54 else 0

set_option maxHeartbeats 1000000 in
theorem refusal_of (lo : Nat) (L : List Value) (t : Ten) (k : Tok) (w : World) (h : TenIn lo w L t) (hk : k.Fits) (hg : t.gone.length ≤ 1000) :
    Calls Tryd.prog 36 #[.agg L.toArray, tokV k] w fun e w' => e = .returned (.int .u16 (refE t k)) ∧ Below w.heap.size w w' := by
  obtain ⟨ka, kn, kc, ga, gn, gc, hL, ⟨k1, k2, k3, k4⟩, ⟨g1, g2, g3, g4⟩, hf⟩ := h
  subst hL
  obtain ⟨q, hq⟩ : ∃ q, q = w.heap.size := ⟨_, rfl⟩
  have lg : gn ≤ 1000 := by rw [← g1.1]; exact hg
  have C := fun w' (hu : UIn w' ga gn t.gone) => contains_of ga gn gc t.gone k.serial w' hu lg
  have H : Hid (q = w.heap.size ∧ UIn w ga gn t.gone) := ⟨hq, g1⟩
  have s0 := hf.2.2.1
  have s1 := hf.2.2.2
  have z0 := hk.2.2.1
  have z1 := hk.2.2.2
  rw [← hq]
  have e : tokV k = .agg (tokL k).toArray := rfl
  rw [e]
  clear e k1 k2 k3 k4 g1 g2 g3 g4 hf hk hg lg
  obtain ⟨E, hE⟩ : ∃ E, E = refE t k := ⟨_, rfl⟩
  rw [← hE]
  unfold refE at hE
  go_enter Tryd.func36, Tryd.ntmps36
  go_upto_region 2 with fail
  rw [← hq]
  generalize hV : World.alloc (World.alloc w _) _ = V
  have pv : Blk V q (tenL t ka kn kc ga gn gc) 49 ∧ Blk V (q + 1) (tokL k) 26 ∧ Below q w V := by
    rw [← hV]
    exact ⟨(Blk.new' hq.symm rfl).alloc _, Blk.new' (by simp [hq]) rfl, ((Below.refl _ _).alloc (by omega) _).alloc (by simp; omega) _⟩
  clear hV hq
  obtain ⟨v0, v1, v2⟩ := pv
  have c4 : V.cell? ⟨q, 4, none⟩ = some (.slice ga gn gc) := v0.cell 4
  have c3 : V.cell? ⟨q, 3, none⟩ = some (.int .u64 t.size) := v0.cell 3
  have d1 : V.cell? ⟨q + 1, 1, none⟩ = some (.int .u32 k.serial) := v1.cell 1
  have d3 : V.cell? ⟨q + 1, 3, none⟩ = some (.int .u64 k.size) := v1.cell 3
  have CV := C V (H.out.2.keeps (Lo.zero _) (Keeps.of_below (by rw [← H.out.1]; exact v2)))
  have HV : Hid (Below q w V) := v2
  clear v0 v1 v2 C
  go_wp2_with fail
  refine CV.mono ?_
  rintro e V ⟨rfl, rfl⟩
  clear CV
  by_cases hs : k.serial ∈ t.gone
  · rw [if_pos hs] at hE
    subst hE
    have hd : decide (k.serial ∈ t.gone) = true := by simpa using hs
    rw [hd]
    clear hd hs
    go_wp2
    go_ret
    exact ⟨rfl, HV.out⟩
  · rw [if_neg hs] at hE
    have hd : decide (k.serial ∈ t.gone) = false := by simpa using hs
    rw [hd]
    clear hd hs
    obtain ⟨S, hS⟩ : ∃ S, S = t.size := ⟨_, rfl⟩
    obtain ⟨Z, hZ⟩ : ∃ Z, Z = k.size := ⟨_, rfl⟩
    rw [← hS] at hE c3 s0 s1
    rw [← hZ] at hE d3 z0 z1
    clear hS hZ
    by_cases h0 : Z = 0
    · subst h0
      rw [if_pos (Or.inl rfl)] at hE
      subst hE
      go_wp2
      go_ret
      exact ⟨rfl, HV.out⟩
    · by_cases h1 : S < Z
      · rw [if_pos (Or.inr h1)] at hE
        subst hE
        go_wp2
        go_ret
        exact ⟨rfl, HV.out⟩
      · rw [if_neg (by omega)] at hE
        subst hE
        have hb : (Z == 0) = false := by simpa using h0
        have hb2 : decide (S < Z) = false := by simpa using h1
        go_wp2
        all_goals first
          | (exfalso; simp_all; done)
          | (go_ret; exact ⟨rfl, HV.out⟩)

/-- Tenants whose cells lie one behind the other. -/
def TsIn (lo : Nat) (w : World) (a : Option Addr) (len : Nat) (ts : List Ten) : Prop :=
  ts.length = len ∧ (len = 0 ∨ ∃ b off, a = some ⟨b, off, none⟩ ∧ lo ≤ b ∧ ∀ r t, ts[r]? = some t → ∃ L, TenIn lo w L t ∧ w.rangeAt b (off + r * 5) L)
theorem range_keeps {lo : Nat} {w w' : World} {b o : Nat} {L : List Value} (h : w.rangeAt b o L) (hb : lo ≤ b) (hk : Keeps lo w w') : w'.rangeAt b o L := fun j v hv => hk.cell (h j v hv) hb
theorem TsIn.keeps {lo : Nat} {w w' : World} {a : Option Addr} {len : Nat} {ts : List Ten} (h : TsIn lo w a len ts) (hk : Keeps lo w w') : TsIn lo w' a len ts := by
  obtain ⟨h1, h2⟩ := h
  refine ⟨h1, ?_⟩
  rcases h2 with h2 | ⟨b, off, ha, hb, hr⟩
  · exact .inl h2
  · refine .inr ⟨b, off, ha, hb, fun r t ht => ?_⟩
    obtain ⟨L, l1, l2⟩ := hr r t ht
    exact ⟨L, l1.keeps hk, range_keeps l2 hb hk⟩
theorem TsIn.below {lo : Nat} {w w' : World} {a : Option Addr} {len : Nat} {ts : List Ten} (h : TsIn lo w a len ts) (hb : Below w.heap.size w w') : TsIn lo w' a len ts := h.keeps (Keeps.of_below hb)
/-- A table of tenants in the world. -/
def TabIn (lo : Nat) (w : World) (p : Value) (ts : List Ten) : Prop :=
  ∃ g b n, p = .pointer (some ⟨g, 0, none⟩) ∧ lo ≤ g ∧ lo ≤ b ∧ w.cell? ⟨g, 0, none⟩ = some (.map (some b)) ∧ MapIn lo w b n ts
theorem TabIn.keeps {lo : Nat} {w w' : World} {p : Value} {ts : List Ten} (h : TabIn lo w p ts) (hk : Keeps lo w w') : TabIn lo w' p ts := by
  obtain ⟨g, b, n, hp, h1, h2, h3, h4⟩ := h
  exact ⟨g, b, n, hp, h1, h2, hk.cell h3 h1, h4.keeps hk h2⟩
theorem TabIn.below {lo : Nat} {w w' : World} {p : Value} {ts : List Ten} (h : TabIn lo w p ts) (hb : Below w.heap.size w w') : TabIn lo w' p ts := h.keeps (Keeps.of_below hb)
instance (ts : List Ten) : Decidable (TabOk ts) := by unfold TabOk; exact inferInstance
def newE (ts : List Ten) : Int := if 64 < ts.length then 3 else if TabOk ts then 0 else 1
theorem find_mem {ts : List Ten} {id : Int} {t : Ten} (h : findT ts id = some t) : t ∈ ts ∧ t.id = id := by
  unfold findT at h
  exact ⟨List.mem_of_find?_eq_some h, by simpa using List.find?_some h⟩
theorem find_none {ts : List Ten} {id : Int} (h : findT ts id = none) : ∀ t ∈ ts, t.id ≠ id := by
  unfold findT at h
  intro t ht
  have := List.find?_eq_none.1 h t ht
  simpa using this
theorem take_next {ts : List Ten} {k : Nat} {t : Ten} (h : ts[k]? = some t) : ts.take (k + 1) = ts.take k ++ [t] := by
  obtain ⟨hk, rfl⟩ := List.getElem?_eq_some_iff.1 h
  exact List.take_succ_eq_append_getElem hk
theorem tabOk_next {ts : List Ten} {k : Nat} {t : Ten} (h : TabOk (ts.take k)) (ht : ts[k]? = some t) (hf : findT (ts.take k) t.id = none) (hk : t.key ≠ []) : TabOk (ts.take (k + 1)) := by
  rw [take_next ht]
  refine ⟨fun x hx => ?_, List.pairwise_append.2 ⟨h.2, List.pairwise_singleton _ _, fun a ha b hb => ?_⟩⟩
  · rcases List.mem_append.1 hx with hx | hx
    · exact h.1 x hx
    · simp only [List.mem_cons, List.not_mem_nil, or_false] at hx; subst hx; exact hk
  · simp only [List.mem_cons, List.not_mem_nil, or_false] at hb
    subst hb
    exact find_none hf a ha
theorem tab_twice {ts : List Ten} {k : Nat} {t t' : Ten} (ht : ts[k]? = some t) (hf : findT (ts.take k) t.id = some t') : ¬ TabOk ts := by
  intro h
  obtain ⟨m1, m2⟩ := find_mem hf
  have e : ts = ts.take k ++ ts.drop k := (List.take_append_drop k ts).symm
  have hp := h.2
  rw [e] at hp
  have := (List.pairwise_append.1 hp).2.2 t' m1 t (by
    obtain ⟨hk, hke⟩ := List.getElem?_eq_some_iff.1 ht
    rw [List.drop_eq_getElem_cons hk, hke]
    exact List.mem_cons_self)
  exact this m2
theorem tab_key {ts : List Ten} {k : Nat} {t : Ten} (ht : ts[k]? = some t) (hk : t.key = []) : ¬ TabOk ts := fun h => h.1 t (List.mem_of_getElem? ht) hk

theorem make_map (n : Int) (w : World) : (Instr.makeMap 70 (some (.int .i64 n))).run Tryd.prog w = .ok (.map (some w.heap.size)) (w.alloc (.map #[] 0)) := by
  simp [Instr.makeMap, run_underlying Tryd.underlying70, asInt, Result.andThen]
  rfl

theorem ten_there (w : World) : (w.alloc (.cells #[.int .u32 0, .slice none 0 0, .int .u64 0, .int .u64 0, .slice none 0 0] 49)).there w.heap.size 0 5 :=
  (Blk.new' (L := ten0L) rfl rfl).there 0 _ (by decide)
theorem ten_all (t : Ten) (ka : Option Addr) (kn kc : Nat) (ga : Option Addr) (gn gc : Nat) : (tenL t ka kn kc ga gn gc).toArray.all (·.oneCell') = true := all_oneCell_toArray (tenL_one _ _ _ _ _ _ _)
theorem ten_size (t : Ten) (ka : Option Addr) (kn kc : Nat) (ga : Option Addr) (gn gc : Nat) : (Tryd.prog.info? 49).map (·.size) = some (tenL t ka kn kc ga gn gc).toArray.size := Tryd.info_tenant

theorem grown_cell {w w' : World} {g o q : Nat} {v : Value} (h : w.cell? ⟨g, o, none⟩ = some v) (hg : w.grownBy w' (some q)) (hne : g ≠ q) : w'.cell? ⟨g, o, none⟩ = some v := by
  rw [cell_same (hg.block g (old_block h) (by simpa using hne))]; exact h

set_option maxHeartbeats 2000000 in
theorem passNew_of (lo : Nat) (a : Option Addr) (len cap : Nat) (ts : List Ten) (w : World) (h : TsIn lo w a len ts) (hl : len ≤ 1000) (hb : ∀ t ∈ ts, t.key.length ≤ 1000 ∧ t.gone.length ≤ 1000) :
    Calls Tryd.prog 16 #[.slice a len cap] w fun e w' => Below w.heap.size w w' ∧
      ((newE ts = 0 ∧ ∃ p, e = .returned (.tuple #[p, .int .u16 0]) ∧ TabIn w.heap.size w' p ts) ∨ (newE ts ≠ 0 ∧ e = .returned (.tuple #[.pointer none, .int .u16 (newE ts)]))) := by
  obtain ⟨q, hq⟩ : ∃ q, q = w.heap.size := ⟨_, rfl⟩
  have H : Hid (q = w.heap.size ∧ TsIn lo w a len ts ∧ ∀ t ∈ ts, t.key.length ≤ 1000 ∧ t.gone.length ≤ 1000) := ⟨hq, h, hb⟩
  rw [← hq]
  clear h hb
  by_cases h64 : (64 : Int) < len
  · have e3 : newE ts = 3 := by unfold newE; rw [if_pos (by rw [H.out.2.1.1]; omega)]
    rw [e3]
    clear e3
    go_enter Tryd.func16, Tryd.ntmps16
    go_wp2
    go_ret2
    exact ⟨Below.refl _ _, .inr ⟨by decide, rfl⟩⟩
  · have h64' : (len : Int) ≤ 64 := by omega
    have HE : Hid (newE ts = if TabOk ts then 0 else 1) := by show _ = _; unfold newE; rw [if_neg (by rw [H.out.2.1.1]; omega)]
    have MM := MapIn.made q w
    rw [← hq] at MM
    have HM : Hid (MapIn q (w.alloc (.map #[] 0)) q 0 [] ∧ Below q w (w.alloc (.map #[] 0))) := ⟨MM, (Below.refl _ _).alloc (by omega) _⟩
    clear MM
    go_enter Tryd.func16, Tryd.ntmps16
    have hmk := make_map
    go_upto_region 4 with fail
    clear hmk
    rw [← hq]
    generalize hV : World.alloc w _ = V at HM
    clear hV hq
    go_wp2
    go_loopw [17] (fun i wr => ∃ k : Nat, k ≤ len ∧ i = .int .i64 k ∧ TabOk (ts.take k) ∧ MapIn q wr q k (ts.take k) ∧ Below q w wr)
      (fun i _ => len - (intOf i).toNat)
    case atStart => exact ⟨0, by omega, rfl, ⟨by simp, by simp⟩, HM.out.1, HM.out.2⟩
    case round =>
      obtain ⟨k, hk, rfl, hok, hmap, hbel⟩ := hrel
      have HK : Hid (TabOk (ts.take k) ∧ MapIn q wr q k (ts.take k) ∧ Below q w wr) := ⟨hok, hmap, hbel⟩
      clear hok hmap hbel HM
      by_cases hlt : k < len
      · have hlt' : (k : Int) < len := by omega
        obtain ⟨b, off, ha, hlo, hrow⟩ := H.out.2.1.2.resolve_left (by omega)
        subst ha
        obtain ⟨t, ht⟩ : ∃ t, ts[k]? = some t := ⟨_, List.getElem?_eq_getElem (by rw [H.out.2.1.1]; exact hlt)⟩
        obtain ⟨L, hT, hR⟩ := hrow k t ht
        have kp : Keeps lo w wr := Keeps.of_below (by rw [← H.out.1]; exact HK.out.2.2)
        have hT' := hT.keeps kp
        have hR' := range_keeps hR hlo kp
        obtain ⟨ka, kn, kc, ga, gn, gc, hL, ⟨k1, k2, k3, k4⟩, ⟨g1, g2, g3, g4⟩, hf⟩ := id hT'
        subst hL
        clear hT hR kp hrow
        have HT : Hid (ts[k]? = some t ∧ TenIn lo wr (tenL t ka kn kc ga gn gc) t ∧ t.Fits ∧ t.key.length = kn ∧ wr.rangeAt b (off + k * 5) (tenL t ka kn kc ga gn gc)) := ⟨ht, hT', hf, k1.1, hR'⟩
        clear ht hT' k1 k2 k3 k4 g1 g2 g3 g4 hf
        have hrg := HT.out.2.2.2.2
        go_upto_region 7 with (first
          | (refine wpList_load_mid rfl 49 (.tmp 19) rfl b (off + k * 5) rfl _ _ hrg Tryd.underlying49 rfl Tryd.info_tenant ?_)
          | (refine wpList_store_mid rfl 49 (.tmp 6) (.tmp 20) rfl wr.heap.size 0 (tenL t ka kn kc ga gn gc).toArray rfl rfl ?hT (ten_size _ _ _ _ _ _ _) (ten_all _ _ _ _ _ _ _) ?_; (case hT => exact ten_there _)))
        obtain ⟨g, hg⟩ : ∃ g, g = wr.heap.size := ⟨_, rfl⟩
        rw [← hg]
        generalize hU : World.setCells _ _ _ _ = U
        have pu : Blk U g (tenL t ka kn kc ga gn gc) 49 ∧ Below g wr U ∧ U.heap.size = g + 1 := by
          rw [← hU]
          exact ⟨(Blk.new' (L := ten0L) hg.symm rfl).setAll (by rfl), below_setCells (Nat.le_refl _) _ _ _ ((Below.refl _ _).alloc (by omega) _), by rw [size_setCells']; simp [hg]⟩
        obtain ⟨u0, u1, u2'⟩ := pu
        have HS : Hid (U.heap.size = g + 1) := u2'
        clear u2'
        have hqg : q < g := by have := HK.out.2.1.lt; omega
        have HU : Hid (MapIn q U q k (ts.take k) ∧ Below q w U ∧ TenIn lo U (tenL t ka kn kc ga gn gc) t) := by
          have b1 : Below wr.heap.size wr U := by rw [← hg]; exact u1
          exact ⟨HK.out.2.1.keeps (Keeps.of_below b1) (Nat.le_refl _), HK.out.2.2.trans (u1.mono (by omega)), HT.out.2.1.below b1⟩
        have c0 : U.cell? ⟨g, 0, none⟩ = some (.int .u32 t.id) := u0.cell 0
        have c1 : U.cell? ⟨g, 1, none⟩ = some (.slice ka kn kc) := u0.cell 1
        clear hU hg u1 hrg
        cases hfd : findT (ts.take k) t.id with
        | some t' =>
          obtain ⟨L', hT', hrun⟩ := look_some HU.out.1 HT.out.2.2.1.1 hfd
          obtain ⟨ka', kn', kc', ga', gn', gc', hL', _⟩ := id hT'
          subst hL'
          have HB : Hid (newE ts = 1) := by show _ = _; rw [HE.out, if_neg (tab_twice HT.out.1 hfd)]
          clear hT' hfd
          go_upto_region 8 with (refine wpList_store_mid rfl 49 (.tmp 7) (.tmp 26) rfl U.heap.size 0 (tenL t' ka' kn' kc' ga' gn' gc').toArray rfl rfl ?hT (ten_size _ _ _ _ _ _ _) (ten_all _ _ _ _ _ _ _) ?_; (case hT => exact ten_there _))
          generalize hY : World.setCells _ _ _ _ = Y
          have HY : Hid (Below q w Y) := by
            show Below q w Y
            rw [← hY]
            exact below_setCells (by have := HS.out; omega) _ _ _ (HU.out.2.1.alloc (by have := HS.out; omega) _)
          clear hY u0 hrun c0 c1
          go_wp2
          go_ret2
          refine ⟨HY.out, .inr ⟨by rw [HB.out]; decide, by rw [HB.out]; rfl⟩⟩
        | none =>
          have hrun := look_none HU.out.1 HT.out.2.2.1.1 hfd
          have HF : Hid (findT (ts.take k) t.id = none) := hfd
          clear hfd
          go_upto_region 8 with (refine wpList_store_mid rfl 49 (.tmp 7) (.tmp 26) rfl U.heap.size 0 ten0L.toArray rfl rfl ?hT (ten_size _ _ _ _ _ _ _) (ten_all _ _ _ _ _ _ _) ?_; (case hT => exact ten_there _))
          generalize hX : World.setCells _ _ _ _ = X
          have px : Blk X g (tenL t ka kn kc ga gn gc) 49 ∧ Below (g + 1) U X ∧ q ≤ X.heap.size := by
            have b : Below (g + 1) U X := by rw [← hX]; exact below_setCells (by have := HS.out; omega) _ _ _ ((Below.refl _ _).alloc (by have := HS.out; omega) _)
            exact ⟨u0.below b (by omega), b, by have := b.size; have := HS.out; omega⟩
          obtain ⟨x0, x1, x2⟩ := px
          have b1 : Below U.heap.size U X := by rw [HS.out]; exact x1
          have HX : Hid (MapIn q X q k (ts.take k) ∧ Below q w X ∧ TenIn lo X (tenL t ka kn kc ga gn gc) t ∧ q ≤ X.heap.size) :=
            ⟨HU.out.1.keeps (Keeps.of_below b1) (Nat.le_refl _), HU.out.2.1.trans (x1.mono (by omega)), HU.out.2.2.below b1, x2⟩
          have e0 : X.cell? ⟨g, 0, none⟩ = some (.int .u32 t.id) := x0.cell 0
          have e1 : X.cell? ⟨g, 1, none⟩ = some (.slice ka kn kc) := x0.cell 1
          have e2 : X.cell? ⟨g, 2, none⟩ = some (.int .u64 t.quota) := x0.cell 2
          have e3 : X.cell? ⟨g, 3, none⟩ = some (.int .u64 t.size) := x0.cell 3
          have e4 : X.cell? ⟨g, 4, none⟩ = some (.slice ga gn gc) := x0.cell 4
          clear hX x1 x2 b1 HU u0 hrun c0 c1
          by_cases hk0 : kn = 0
          · subst hk0
            have HB : Hid (newE ts = 1) := by show _ = _; rw [HE.out, if_neg (tab_key HT.out.1 (List.length_eq_zero_iff.1 HT.out.2.2.2.1))]
            go_wp2
            go_ret2
            refine ⟨HX.out.2.1, .inr ⟨by rw [HB.out]; decide, by rw [HB.out]; rfl⟩⟩
          · have hk0' : ¬ (kn : Int) = 0 := by omega
            have hk1 : ¬ ((kn : Int) == 0) = true := by simpa using hk0
            go_upto_region 10 with fail
            have hgX : g < X.heap.size := x0.lt
            have HC : Hid (t.key.length ≤ 1000 ∧ t.gone.length ≤ 1000 ∧ k < 1000) := by
              have := H.out.2.2 t (List.mem_of_getElem? HT.out.1)
              exact ⟨this.1, this.2, by omega⟩
            have CC : Calls Tryd.prog 34 #[.agg #[.int .u32 t.id, .slice ka kn kc, .int .u64 t.quota, .int .u64 t.size, .slice ga gn gc]] X.drew (fun e w' => ∃ L', e = .returned (.agg L'.toArray) ∧ TenIn X.heap.size w' L' t ∧ Below X.heap.size X.drew w') := copied_of lo (tenL t ka kn kc ga gn gc) t X.drew HX.out.2.2.1 HC.out.1 HC.out.2.1
            go_region_held3 (fun w' => w'.cell? ⟨g, 0, none⟩ = some (.int .u32 t.id) ∧ w'.cell? ⟨g, 1, none⟩ = some (.slice ka kn kc) ∧ w'.cell? ⟨g, 2, none⟩ = some (.int .u64 t.quota) ∧ w'.cell? ⟨g, 3, none⟩ = some (.int .u64 t.size) ∧ w'.cell? ⟨g, 4, none⟩ = some (.slice ga gn gc))
              ((go_split_ands; (repeat' apply And.intro) <;> first | assumption | (simp only [World.cell?_drew]; assumption)))
              ((go_at_call 34; refine CC.mono ?_; rintro e w2 ⟨L2, rfl, hT2, b2⟩; have b2' : Below X.heap.size X w2 := ((Below.refl _ _).drew).trans b2; have j0 := cell_keep e0 b2' hgX; have j1 := cell_keep e1 b2' hgX; have j2 := cell_keep e2 b2' hgX; have j3 := cell_keep e3 b2' hgX; have j4 := cell_keep e4 b2' hgX; obtain ⟨w3, hrun3, hm3, gr3⟩ := MapIn.put (HX.out.1.keeps (Keeps.of_below b2') (Nat.le_refl _)) (hT2.lower HX.out.2.2.2) HC.out.2.2 HF.out; have i0 := grown_cell j0 gr3 (by omega); have i1 := grown_cell j1 gr3 (by omega); have i2 := grown_cell j2 gr3 (by omega); have i3 := grown_cell j3 gr3 (by omega); have i4 := grown_cell j4 gr3 (by omega)))
            have HZ : Hid (MapIn q w3 q (k + 1) (ts.take (k + 1)) ∧ Below q w w3) := by
              refine ⟨by rw [take_next HT.out.1]; exact hm3, (HX.out.2.1.trans (b2'.mono HX.out.2.2.2)).grown gr3 ?_ (fun x hx => by cases hx; exact Nat.le_refl _)⟩
              have := b2'.size
              have := HX.out.2.2.2
              omega
            clear hT2 b2 b2' j0 j1 j2 j3 j4 hrun3 hm3 gr3 i0 i1 i2 i3 i4 CC HX e0 e1 e2 e3 e4 x0 hgX
            go_wp2
            go_roundw
            case rel => exact ⟨k + 1, by omega, by go_num, tabOk_next HK.out.1 HT.out.1 HF.out (by intro e; have := HT.out.2.2.2.1; rw [e] at this; simp at this; omega), HZ.out.1, HZ.out.2⟩
            case measure => simp [intOf]; omega
      · have hge : (len : Int) ≤ k := by omega
        have hkl : k = len := by omega
        have HB : Hid (newE ts = 0 ∧ MapIn q wr q k ts) := by
          have e : ts.take k = ts := List.take_of_length_le (by rw [H.out.2.1.1]; omega)
          have h1 := HK.out.1
          have h2 := HK.out.2.1
          rw [e] at h1 h2
          exact ⟨by rw [HE.out, if_pos h1], h2⟩
        have hqs : q ≤ wr.heap.size := by have := HK.out.2.2.size; have := H.out.1; omega
        clear hkl
        go_wp2
        go_ret2
        refine ⟨HK.out.2.2.alloc hqs _, .inl ⟨HB.out.1, _, rfl, wr.heap.size, q, k, rfl, hqs, Nat.le_refl _, by rw [World.cell?_alloc_mark]; rfl, HB.out.2.keeps (Keeps.of_below ((Below.refl _ _).alloc (Nat.le_refl _) _)) (Nat.le_refl _)⟩⟩
end Go.Proofs.YtpliokkmiijieaaDoor
