/- Tenants in the world; what one call of copied does. -/
import Derived.Test.YtpliokkmiijieaaDoorPIssue
import Derived.Test.YtpliokkmiijieaaDoorKeep
import Derived.Test.YtpliokkmiijieaaDoorRefWords
namespace Go.Proofs.YtpliokkmiijieaaDoor
open Go.RowKit
set_option linter.unusedVariables false
set_option maxRecDepth 4000

/-- A list of 32-bit numbers that lies in the world. -/
def UIn (w : World) (a : Option Addr) (len : Nat) (zs : List Int) : Prop :=
  zs.length = len ∧ len ≤ maxLen ∧ (∀ z ∈ zs, Fits32 z) ∧
  (len = 0 ∨ ∃ b off, a = some ⟨b, off, none⟩ ∧ ∀ i, i < len → w.cell? ⟨b, off + i, none⟩ = some (.int .u32 (zs.getD i 0)))
/-- What lies from block lo on is as it was. -/
def Keeps (lo : Nat) (w w' : World) : Prop := ∀ b, lo ≤ b → b < w.heap.size → w'.heap[b]? = w.heap[b]?
def Lo (lo : Nat) (a : Option Addr) : Prop := ∀ x, a = some x → lo ≤ x.block
theorem Keeps.of_below {lo : Nat} {w w' : World} (h : Below w.heap.size w w') : Keeps lo w w' := fun b _ hb => h.block b hb
theorem Keeps.mono {lo lo' : Nat} {w w' : World} (h : Keeps lo w w') (hl : lo ≤ lo') : Keeps lo' w w' := fun b h1 h2 => h b (Nat.le_trans hl h1) h2
theorem cell_same {w w' : World} {a : Addr} (h : w'.heap[a.block]? = w.heap[a.block]?) : w'.cell? a = w.cell? a := by simp [World.cell?, h]
theorem Keeps.cell {lo : Nat} {w w' : World} (h : Keeps lo w w') {b o : Nat} {v : Value} (hc : w.cell? ⟨b, o, none⟩ = some v) (hb : lo ≤ b) : w'.cell? ⟨b, o, none⟩ = some v := by
  rw [cell_same (h b hb (old_block hc))]; exact hc
theorem BIn.keeps {lo : Nat} {w w' : World} {a : Option Addr} {len : Nat} {zs : List Int} (h : BIn w a len zs) (hl : Lo lo a) (hk : Keeps lo w w') : BIn w' a len zs := by
  obtain ⟨h1, h2, h3, h4⟩ := h
  refine ⟨h1, h2, h3, ?_⟩
  rcases h4 with h4 | ⟨b, off, ha, hc⟩
  · exact .inl h4
  · exact .inr ⟨b, off, ha, fun i hi => hk.cell (hc i hi) (hl _ ha)⟩
theorem UIn.keeps {lo : Nat} {w w' : World} {a : Option Addr} {len : Nat} {zs : List Int} (h : UIn w a len zs) (hl : Lo lo a) (hk : Keeps lo w w') : UIn w' a len zs := by
  obtain ⟨h1, h2, h3, h4⟩ := h
  refine ⟨h1, h2, h3, ?_⟩
  rcases h4 with h4 | ⟨b, off, ha, hc⟩
  · exact .inl h4
  · exact .inr ⟨b, off, ha, fun i hi => hk.cell (hc i hi) (hl _ ha)⟩
theorem Lo.zero (a : Option Addr) : Lo 0 a := fun _ _ => Nat.zero_le _
theorem Lo.mono {lo lo' : Nat} {a : Option Addr} (h : Lo lo a) (hl : lo' ≤ lo) : Lo lo' a := fun x hx => Nat.le_trans hl (h x hx)
theorem own_lo {w : World} {base : Nat} {e : TypeId} {a : Option Addr} {n c : Nat} {zs : List Value} (h : w.ownsRow base e 1 (.slice a n c) n zs) : Lo base a := by
  intro x hx
  rcases h.2 with ⟨hv, _⟩ | ⟨g, cap, cur, hv, hb, _⟩
  · cases hv; cases hx
  · cases hv; cases hx; exact hb

theorem own_uin {w : World} {base : Nat} {a : Option Addr} {n c : Nat} {zs : List Int} (h : w.ownsRow base 23 1 (.slice a n c) n (u32s zs)) (hm : n ≤ maxLen) (hz : ∀ z ∈ zs, Fits32 z) :
    UIn w a n zs := by
  have hl : zs.length = n := by have := h.1; simp [u32s] at this; omega
  refine ⟨hl, hm, hz, ?_⟩
  rcases h.2 with ⟨hv, hn⟩ | ⟨g, cap, cur, hv, hb, hg, hc, hcm, hsz, htake⟩
  · exact .inl hn
  · cases hv
    refine .inr ⟨g, 0, rfl, fun i hi => ?_⟩
    have hcl := h.cells (g := g) rfl i (.int .u32 (zs.getD i 0)) (by simp [u32s, List.getD, hl, hi])
    rw [Addr.add_mid] at hcl
    exact hcl
theorem own_unil {w : World} {base : Nat} {a : Option Addr} {n c : Nat} {zs : List Value} (h : w.ownsRow base 23 1 (.slice a n c) n zs) : (a = none → n = 0 ∧ c = 0) ∧ n ≤ c := by
  rcases h.2 with ⟨hv, hn⟩ | ⟨g, cap, cur, hv, hb, hg, hc, _⟩
  · cases hv; exact ⟨fun _ => ⟨rfl, rfl⟩, Nat.le_refl _⟩
  · cases hv; exact ⟨(fun h => by cases h), hc⟩
theorem wpList_append_uin {ops : Array Oper} {rest : List Oper} {o : Oper} {a : Act} {Q : Exit → Act → World → Prop} {w : World} (hgd : o.guard = none) (s x : Operand)
    (ho : o.op = .call { callee := .builtin .append, args := #[s, x], argTypes := #[47, 47] }) (base : Nat)
    (a0 : Option Addr) (n0 c0 : Nat) (xs : List Int) (hs : a.eval s = .slice a0 n0 c0) (hown : w.ownsRow base 23 1 (.slice a0 n0 c0) n0 (u32s xs))
    (a1 : Option Addr) (n1 c1 : Nat) (zs : List Int) (hx : a.eval x = .slice a1 n1 c1) (hin : UIn w a1 n1 zs) (hnil : a1 = none → n1 = 0 ∧ c1 = 0)
    (hle : n0 + n1 ≤ 1000000) (hbase : base ≤ w.heap.size)
    (h : ∀ a' c' w', w'.ownsRow base 23 1 (.slice a' (n0 + n1) c') (n0 + n1) (u32s (xs ++ zs)) → Below base w w' → wpList Tryd.prog ops Q rest (a.put o.dst (.slice a' (n0 + n1) c')) w') :
    wpList Tryd.prog ops Q (o :: rest) a w := by
  obtain ⟨i0, hi, hz0, hz1, hz2⟩ := info_parts Tryd.zero_u32
  obtain ⟨hl, hm, hfit, hcell⟩ := hin
  cases a1 with
  | none =>
    obtain ⟨rfl, rfl⟩ := hnil rfl
    have : zs = [] := List.length_eq_zero_iff.1 hl
    subst this
    refine wpList_append_own_none hgd s x 47 ho base 23 i0 1 Tryd.underlying47 hi _ n0 (u32s xs) hs hown hx ?_
    have := h a0 c0 w (by simpa using hown) (Below.refl _ _)
    simpa using this
  | some ad =>
    refine wpList_append_own w hgd s x 47 ho base 23 i0 (.int .u32 0) 1 4 Tryd.underlying47 hi hz0 hz1 hz2 rfl (by decide) _ n0 (u32s xs) hs hown ad n1 c1 (u32s zs) hx (by simp [u32s, hl]) ?_ (u32s_one _) (by unfold maxLen; omega) (by omega) hbase ?_
    · intro j u hj
      have hjl : j < n1 := by
        have := (List.getElem?_eq_some_iff.1 hj).1
        rwa [u32s_length, hl] at this
      rcases hcell with hc | ⟨b, off, ha, hc⟩
      · omega
      · cases ha
        rw [Addr.add_mid, hc j hjl, ← hj]
        simp [u32s, List.getD, hl, hjl]
    · intro v' w' hown' hgrow _
      have hb : Below base w w' := (Below.refl base w).grown hgrow hbase (fun k hk => (hown.lt k hk).1)
      have hcat : u32s xs ++ u32s zs = u32s (xs ++ zs) := by simp [u32s]
      rw [hcat] at hown'
      obtain ⟨a', c', rfl⟩ : ∃ a' c', v' = .slice a' (n0 + n1) c' := by
        rcases hown'.2 with ⟨hv, hn⟩ | ⟨g, cap, cur, hv, _⟩
        · exact ⟨none, 0, by rw [hv, hn]⟩
        · exact ⟨_, _, hv⟩
      exact h a' c' w' hown' hb

/-- A tenant's cells. -/
def tenL (t : Ten) (ka : Option Addr) (kn kc : Nat) (ga : Option Addr) (gn gc : Nat) : List Value := [.int .u32 t.id, .slice ka kn kc, .int .u64 t.quota, .int .u64 t.size, .slice ga gn gc]
def Ten.Fits (t : Ten) : Prop := Fits32 t.id ∧ (0 ≤ t.quota ∧ t.quota < 18446744073709551616) ∧ 0 ≤ t.size ∧ t.size < 18446744073709551616
/-- Cells that are a tenant's, whose lists lie in the world, from block lo on. -/
def TenIn (lo : Nat) (w : World) (L : List Value) (t : Ten) : Prop :=
  ∃ ka kn kc ga gn gc, L = tenL t ka kn kc ga gn gc ∧ (BIn w ka kn t.key ∧ kn ≤ kc ∧ (ka = none → kn = 0 ∧ kc = 0) ∧ Lo lo ka) ∧ (UIn w ga gn t.gone ∧ gn ≤ gc ∧ (ga = none → gn = 0 ∧ gc = 0) ∧ Lo lo ga) ∧ t.Fits
theorem TenIn.keeps {lo : Nat} {w w' : World} {L : List Value} {t : Ten} (h : TenIn lo w L t) (hk : Keeps lo w w') : TenIn lo w' L t := by
  obtain ⟨ka, kn, kc, ga, gn, gc, hL, ⟨k1, k2, k3, k4⟩, ⟨g1, g2, g3, g4⟩, hf⟩ := h
  exact ⟨ka, kn, kc, ga, gn, gc, hL, ⟨k1.keeps k4 hk, k2, k3, k4⟩, ⟨g1.keeps g4 hk, g2, g3, g4⟩, hf⟩
theorem TenIn.below {lo : Nat} {w w' : World} {L : List Value} {t : Ten} (h : TenIn lo w L t) (hb : Below w.heap.size w w') : TenIn lo w' L t := h.keeps (Keeps.of_below hb)
theorem TenIn.lower {lo lo' : Nat} {w : World} {L : List Value} {t : Ten} (h : TenIn lo w L t) (hl : lo' ≤ lo) : TenIn lo' w L t := by
  obtain ⟨ka, kn, kc, ga, gn, gc, hL, ⟨k1, k2, k3, k4⟩, ⟨g1, g2, g3, g4⟩, hf⟩ := h
  exact ⟨ka, kn, kc, ga, gn, gc, hL, ⟨k1, k2, k3, k4.mono hl⟩, ⟨g1, g2, g3, g4.mono hl⟩, hf⟩
theorem tenL_one (t : Ten) (ka : Option Addr) (kn kc : Nat) (ga : Option Addr) (gn gc : Nat) : ∀ v ∈ tenL t ka kn kc ga gn gc, v.oneCell' = true := by
  intro v hv
  simp only [tenL, List.mem_cons, List.not_mem_nil, or_false] at hv
  rcases hv with rfl | rfl | rfl | rfl | rfl <;> rfl
theorem Tryd.info_tenant : (Tryd.prog.info? 49).map (·.size) = some 5 := by kernel_rfl
def ten0 : Ten := ⟨0, [], 0, 0, []⟩

set_option maxHeartbeats 1000000 in
theorem copied_of (lo : Nat) (L : List Value) (t : Ten) (w : World) (h : TenIn lo w L t) (hk : t.key.length ≤ 1000) (hg : t.gone.length ≤ 1000) :
    Calls Tryd.prog 34 #[.agg L.toArray] w fun e w' => ∃ L', e = .returned (.agg L'.toArray) ∧ TenIn w.heap.size w' L' t ∧ Below w.heap.size w w' := by
  obtain ⟨ka, kn, kc, ga, gn, gc, hL, ⟨k1, k2, k3, k4⟩, ⟨g1, g2, g3, g4⟩, hf⟩ := h
  subst hL
  obtain ⟨q, hq⟩ : ∃ q, q = w.heap.size := ⟨_, rfl⟩
  have ln : kn ≤ 1000 := by rw [← k1.1]; exact hk
  have lg : gn ≤ 1000 := by rw [← g1.1]; exact hg
  have H : Hid (q = w.heap.size ∧ BIn w ka kn t.key ∧ (ka = none → kn = 0 ∧ kc = 0) ∧ UIn w ga gn t.gone ∧ (ga = none → gn = 0 ∧ gc = 0) ∧ t.Fits) := ⟨hq, k1, k3, g1, g3, hf⟩
  rw [← hq]
  clear k1 k2 k3 k4 g1 g2 g3 g4 hf hk hg
  go_enter Tryd.func34, Tryd.ntmps34
  go_upto_region 1 with fail
  rw [← hq]
  generalize hV : World.alloc (World.alloc w _) _ = V
  have pv : Blk V q (tenL t ka kn kc ga gn gc) 49 ∧ Blk V (q + 1) (tenL ten0 none 0 0 none 0 0) 49 ∧ Below q w V ∧ V.heap.size = q + 2 := by
    rw [← hV]
    exact ⟨(Blk.new' hq.symm rfl).alloc _, Blk.new' (by simp [hq]) rfl, ((Below.refl _ _).alloc (by omega) _).alloc (by simp; omega) _, by simp [hq]⟩
  clear hV hq
  obtain ⟨v0, v1, v2, v3⟩ := pv
  have HV : Hid (Blk V (q + 1) (tenL ten0 none 0 0 none 0 0) 49 ∧ Below q w V ∧ BIn V ka kn t.key ∧ UIn V ga gn t.gone) := by
    have b : Below w.heap.size w V := by rw [← H.out.1]; exact v2
    exact ⟨v1, v2, H.out.2.1.below b, H.out.2.2.2.1.keeps (Lo.zero _) (Keeps.of_below b)⟩
  have c1 : V.cell? ⟨q, 1, none⟩ = some (.slice ka kn kc) := v0.cell 1
  have on1 : V.ownsRow (q + 2) 5 1 (.slice none 0 0) 0 (u8s []) := World.ownsRow_nil _ _ _ _
  go_upto_region 2 with (at_builtin; refine wpList_append_bin rfl (.const (.slice none 0 0)) (.tmp 4) rfl (q + 2) none 0 0 [] rfl on1 ka kn kc t.key rfl HV.out.2.2.1 H.out.2.2.1 (by omega) (by omega) ?_; intro a1 d1 w1 ow1 bl1; rw [Nat.zero_add, List.nil_append] at ow1; rw [Nat.zero_add]; have u0 := v0.below bl1 (by omega); have e0 : w1.cell? ⟨q, 1, none⟩ = some (.slice ka kn kc) := u0.cell 1; have z0 := u0.frozen 1)
  have p1 := u0.set 1 (.slice a1 kn d1)
  have H1 : Hid (w1.ownsRow (q + 2) 5 1 (.slice a1 kn d1) kn (u8s t.key) ∧ Below (q + 2) V w1) := ⟨ow1, bl1⟩
  have n1 : (w1.setCell ⟨q, 1, none⟩ (.slice a1 kn d1)).heap.size = w1.heap.size := by simp [World.setCell]
  have b1 : Below q w (w1.setCell ⟨q, 1, none⟩ (.slice a1 kn d1)) := (HV.out.2.1.trans (bl1.mono (by omega))).setCell (Nat.le_refl _) _
  have o1 : (w1.setCell ⟨q, 1, none⟩ (.slice a1 kn d1)).ownsRow (q + 2) 5 1 (.slice a1 kn d1) kn (u8s t.key) := own_same ow1 fun k hk => Below.heap_setCell w1 _ _ k (by have := (ow1.lt k hk).1; show k ≠ q; omega)
  have r1 : Blk (w1.setCell ⟨q, 1, none⟩ (.slice a1 kn d1)) (q + 1) (tenL ten0 none 0 0 none 0 0) 49 := (HV.out.1.below bl1 (by omega)).set_other (by show q + 1 ≠ q; omega) _
  have s1 : q + 2 ≤ (w1.setCell ⟨q, 1, none⟩ (.slice a1 kn d1)).heap.size := by have := bl1.size; omega
  generalize hU : World.setCell w1 _ _ = U at p1 b1 o1 r1 s1 ⊢
  have HU : Hid (U.ownsRow (q + 2) 5 1 (.slice a1 kn d1) kn (u8s t.key) ∧ Blk U (q + 1) (tenL ten0 none 0 0 none 0 0) 49 ∧ Below q w U ∧ UIn U ga gn t.gone) :=
    ⟨o1, r1, b1, H.out.2.2.2.1.keeps (Lo.zero _) (Keeps.of_below (by rw [← H.out.1]; exact b1))⟩
  have c4 : U.cell? ⟨q, 4, none⟩ = some (.slice ga gn gc) := p1.cell 4
  have on2 : U.ownsRow U.heap.size 23 1 (.slice none 0 0) 0 (u32s []) := World.ownsRow_nil _ _ _ _
  clear ow1 bl1 u0 e0 z0 H1 n1 hU b1 o1 r1 on1 v0 v1 v2 v3 HV c1
  go_upto_region 3 with (at_builtin; refine wpList_append_uin rfl (.const (.slice none 0 0)) (.tmp 8) rfl U.heap.size none 0 0 [] rfl on2 ga gn gc t.gone rfl HU.out.2.2.2 H.out.2.2.2.2.1 (by omega) (Nat.le_refl _) ?_; intro a2 d2 w2 ow2 bl2; rw [Nat.zero_add, List.nil_append] at ow2; rw [Nat.zero_add]; have u0 := p1.below bl2 (by omega); have e0 : w2.cell? ⟨q, 4, none⟩ = some (.slice ga gn gc) := u0.cell 4; have z0 := u0.frozen 4)
  have p2 := u0.set 4 (.slice a2 gn d2)
  have b2 : Below q w (w2.setCell ⟨q, 4, none⟩ (.slice a2 gn d2)) := (HU.out.2.2.1.trans (bl2.mono (by omega))).setCell (Nat.le_refl _) _
  have o2 : (w2.setCell ⟨q, 4, none⟩ (.slice a2 gn d2)).ownsRow (q + 2) 5 1 (.slice a1 kn d1) kn (u8s t.key) := own_same (own_below HU.out.1 bl2) fun k hk => Below.heap_setCell w2 _ _ k (by have := (HU.out.1.lt k hk).1; show k ≠ q; omega)
  have g2 : UIn (w2.setCell ⟨q, 4, none⟩ (.slice a2 gn d2)) a2 gn t.gone := (own_uin ow2 (by unfold maxLen; omega) H.out.2.2.2.1.2.2.1).keeps (own_lo ow2) fun b hb _ => Below.heap_setCell w2 _ _ b (by show b ≠ q; omega)
  have r2 : Blk (w2.setCell ⟨q, 4, none⟩ (.slice a2 gn d2)) (q + 1) (tenL ten0 none 0 0 none 0 0) 49 := (HU.out.2.1.below bl2 (by omega)).set_other (by show q + 1 ≠ q; omega) _
  have e2 : ((tenL t ka kn kc ga gn gc).set 1 (.slice a1 kn d1)).set 4 (.slice a2 gn d2) = tenL t a1 kn d1 a2 gn d2 := rfl
  rw [e2] at p2
  generalize hX : World.setCell w2 _ _ = X at p2 b2 o2 g2 r2 ⊢
  have HX : Hid (TenIn q (X.setCells (q + 1) 0 (tenL t a1 kn d1 a2 gn d2)) (tenL t a1 kn d1 a2 gn d2) t ∧ Below q w X) := by
    have kp : Keeps (q + 2) X (X.setCells (q + 1) 0 (tenL t a1 kn d1 a2 gn d2)) := fun b hb hlt => World.heap_setCells_other X (q + 1) 0 _ hlt (by omega)
    have la := own_lo o2
    have lg' : Lo (q + 2) a2 := (own_lo ow2).mono s1
    refine ⟨⟨a1, kn, d1, a2, gn, d2, rfl, ⟨(own_bin o2 (by unfold maxLen; omega) H.out.2.1.2.2.1).keeps la kp, own_cap1 o2, own_nil o2, la.mono (by omega)⟩, ⟨g2.keeps lg' kp, (own_unil ow2).2, (own_unil ow2).1, lg'.mono (by omega)⟩, H.out.2.2.2.2.2⟩, b2⟩
  clear ow2 bl2 u0 e0 z0 hX b2 o2 g2 HU on2 c4 p1 s1
  go_wp2_with (first
    | (refine wpList_load_mid rfl 49 (.tmp 1) rfl q 0 rfl _ _ p2.whole Tryd.underlying49 rfl Tryd.info_tenant ?_)
    | (refine wpList_store_mid rfl 49 (.tmp 2) (.tmp 11) rfl (q + 1) 0 (tenL t a1 kn d1 a2 gn d2).toArray rfl rfl (r2.there 0 _ (by simp [tenL])) (by simp [tenL, Tryd.info_tenant]) (all_oneCell_toArray (tenL_one _ _ _ _ _ _ _)) ?_))
  have b3 := r2.setAll (vs := tenL t a1 kn d1 a2 gn d2) (by rfl)
  refine bodyPost_ret (v := .agg (tenL t a1 kn d1 a2 gn d2).toArray) (results_cell_one (p := 2) (ty := 49) rfl _ _ (q + 1) _ _ _ rfl b3 Tryd.underlying49 rfl Tryd.info_tenant) rfl ⟨_, rfl, HX.out.1, ?_⟩
  exact below_setCells (by omega) _ _ _ HX.out.2
end Go.Proofs.YtpliokkmiijieaaDoor
