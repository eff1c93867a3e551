/- What one call of known (of the statements' own) does. -/
import Derived.Test.YtpliokkmiijieaaDoorPCheck
import Derived.Test.YtpliokkmiijieaaDoorKkTags
namespace Go.Proofs.YtpliokkmiijieaaDoor
open Go.RowKit
set_option linter.unusedVariables false
set_option maxRecDepth 4000

def kx : Tok := ⟨1, 2, false, 3⟩
def kt : Ten := ⟨1, [108], 0, 5, []⟩
theorem kx_fits : kx.Fits := by unfold Tok.Fits kx; simp
theorem k_look : lookI (issueI kkKey kx) = kx ∧ lookE (issueI kkKey kx) = 0 := by
  obtain ⟨h1, _, _, h4⟩ := issue_good kkKey kx_fits
  exact ⟨h4, by unfold lookE; rw [if_pos h1]⟩
theorem k_check : checkI [kt] (issueI kkKey kx) = (tok0, 52) := by
  obtain ⟨h1, h2, h3, h4⟩ := issue_good kkKey kx_fits
  unfold checkI
  rw [if_pos h1, h4]
  have hf : findT [kt] kx.tenant = some kt := by rfl
  rw [hf, check_is, h2, h3]
  have hb : bodyI kx = kbT := kb_body
  rw [hb]
  have hne : ofI kt.key kbT ≠ ofI kkKey kbT := kb_apart
  rw [if_pos hne]
theorem k_new : newE [kt] = 0 := by
  unfold newE
  rw [if_neg (by decide), if_pos ⟨by decide, by simp⟩]
theorem str_nums {cs : List Int} (hf : ∀ z ∈ cs, Fits8 z) : (strOfNums cs).size = cs.length := strOfNums_size cs
theorem issueI_fits (key : List Int) (t : Tok) : ∀ z ∈ issueI key t, Fits8 z := wrI_fits _

theorem one_ts {w : World} {k lo : Nat} {L : List Value} {t : Ten} (hk : w.heap.size = k) (h : TenIn lo w L t) (hlo : lo ≤ k) : TsIn lo (w.alloc (.cells L.toArray 49)) (some ⟨k, 0, none⟩) 1 [t] := by
  refine ⟨rfl, .inr ⟨k, 0, rfl, hlo, fun r t' ht => ?_⟩⟩
  cases r with
  | zero =>
    cases ht
    refine ⟨L, h.below ((Below.refl _ _).alloc (Nat.le_refl _) _), ?_⟩
    exact (Blk.new' (L := L) hk rfl).whole
  | succ r => simp at ht
theorem key_ten {w : World} {k : Nat} {a : Option Addr} {n c : Nat} {key : List Int} {id quota size : Int} (h : BIn w a n key) (hc : n ≤ c) (hn : a = none → n = 0 ∧ c = 0) (hf : (⟨id, key, quota, size, []⟩ : Ten).Fits) :
    TenIn 0 w (tenL ⟨id, key, quota, size, []⟩ a n c none 0 0) ⟨id, key, quota, size, []⟩ :=
  ⟨a, n, c, none, 0, 0, rfl, ⟨h, hc, hn, Lo.zero _⟩, ⟨⟨rfl, Nat.zero_le _, by simp, .inl rfl⟩, Nat.le_refl _, fun _ => ⟨rfl, rfl⟩, Lo.zero _⟩, hf⟩

set_option maxHeartbeats 1000000 in
theorem pknown_any (w : World) (hG : GIn w) :
    Calls Tryd.prog 9 #[] w fun e w' => e = .returned (.bool true) ∧ Below w.heap.size w w' := by
  obtain ⟨q, hq⟩ : ∃ q, q = w.heap.size := ⟨_, rfl⟩
  have H : Hid (q = w.heap.size ∧ GIn w) := ⟨hq, hG⟩
  rw [← hq]
  clear hG
  go_enter Tryd.func9, Tryd.ntmps9
  go_upto_region 2 with fail
  rw [← hq]
  have kc := fun (w : World) (C : Array Value) (n c : Nat) => Lib.run_convert_bytes_const (P := Tryd.prog) w 22 5 C n c Tryd.underlying22 Tryd.underlying5
  generalize hV : World.alloc w _ = V
  have HV : Hid (Blk V q (tokL kx) 26 ∧ Below q w V ∧ GIn V ∧ q < V.heap.size) := by
    rw [← hV]
    exact ⟨Blk.new' hq.symm rfl, (Below.refl _ _).alloc (by omega) _, H.out.2.alloc _, by simp [hq]⟩
  clear hV hq
  have kV := kc V
  have v0 := HV.out.1
  go_upto_region 3 with (refine wpList_load_mid rfl 26 (.tmp 1) rfl q 0 rfl (tokL kx) _ ?hR Tryd.underlying26 rfl Tryd.info_token ?_; (case hR => exact (Blk.alloc v0 _).whole))
  refine (passIssue_of (some ⟨V.heap.size, 0, none⟩) 1 1 kkKey kx (V.alloc (.cells #[.int .u8 107] 5 (1, 2))) (HV.out.2.2.1.alloc _) (new_bin rfl rfl rfl (by simp [kkKey, Fits8]) (by unfold maxLen; omega)) (by omega) (by omega) kx_fits).mono ?_
  rintro e w1 ⟨rfl, b1⟩
  have H1 : Hid (Blk w1 q (tokL kx) 26 ∧ Below q w w1 ∧ GIn w1 ∧ q < w1.heap.size) := by
    have bv : Below V.heap.size V w1 := ((Below.refl _ _).alloc (Nat.le_refl _) _).trans (b1.mono (by simp))
    have := HV.out.2.2.2
    exact ⟨HV.out.1.below bv this, HV.out.2.1.trans (bv.mono (by omega)), HV.out.2.2.1.below bv HV.out.2.2.1.lt, by have := bv.size; omega⟩
  obtain ⟨s, hs⟩ : ∃ s, s = strOfNums (issueI kkKey kx) := ⟨_, rfl⟩
  rw [← hs]
  have LK := fun w => passLook_of s (issueI kkKey kx) 80 w hs (issueI_fits _ _) (issueI_length _ _) (by omega)
  rw [k_look.1, k_look.2] at LK
  have CK := fun lo p w h hG => check_of lo p [kt] s (issueI kkKey kx) 80 w h hG hs (issueI_fits _ _) (issueI_length _ _) (by omega) (by intro t ht; simp only [List.mem_cons, List.not_mem_nil, or_false] at ht; subst ht; exact ⟨by decide, by decide⟩)
  rw [k_check] at CK
  clear b1 hs HV v0 kV
  go_upto_region 4 with (first
    | (go_at_call 12; refine (LK w1).mono ?_; rintro e w2 ⟨rfl, b2⟩)
    | (refine wpList_store_mid rfl 26 (.tmp 3) (.tmp 17) rfl w2.heap.size 0 (tokL kx).toArray rfl rfl ?hT (tok_size _) (tok_all _) ?_; (case hT => exact tok_there _)))
  generalize hU : World.setCells _ _ _ _ = U
  obtain ⟨g, hg⟩ : ∃ g, g = w2.heap.size := ⟨_, rfl⟩
  rw [← hg]
  have HU : Hid (Blk U q (tokL kx) 26 ∧ Blk U g (tokL kx) 26 ∧ Below q w U ∧ GIn U ∧ q < U.heap.size ∧ g < U.heap.size) := by
    have h1 := H1.out.2.2.2
    have h2 := b2.size
    have bu : Below w2.heap.size w2 U := by rw [← hU]; exact below_setCells (Nat.le_refl _) _ _ _ ((Below.refl _ _).alloc (Nat.le_refl _) _)
    have bb : Below w1.heap.size w1 U := b2.trans (bu.mono h2)
    have bk : Blk U g (tokL kx) 26 := by rw [← hU, hg]; exact (Blk.new' (L := tokL tok0) rfl rfl).setAll (by rfl)
    exact ⟨H1.out.1.below bb h1, bk, H1.out.2.1.trans (bb.mono (by omega)), H1.out.2.2.1.below bb H1.out.2.2.1.lt, by have := bb.size; omega, bk.lt⟩
  clear hU hg b2 LK H1
  have kU := kc U
  clear kc
  go_upto_region 5 with fail
  have hts : TsIn 0 ((U.alloc (.cells #[.int .u8 108] 5 (1, 2))).alloc (.cells #[.int .u32 1, .slice (some ⟨U.heap.size, 0, none⟩) 1 1, .int .u64 0, .int .u64 5, .slice none 0 0] 49)) (some ⟨U.heap.size + 1, 0, none⟩) 1 [kt] :=
    one_ts (L := tenL kt (some ⟨U.heap.size, 0, none⟩) 1 1 none 0 0) (by simp) (key_ten (k := 0) (new_bin rfl rfl rfl (by simp [Fits8]) (by unfold maxLen; omega)) (by omega) (fun h => by cases h) (by unfold Ten.Fits Fits32; simp)) (Nat.zero_le _)
  refine (passNew_of 0 (some ⟨U.heap.size + 1, 0, none⟩) 1 1 [kt] _ hts (by omega) (by intro t ht; simp only [List.mem_cons, List.not_mem_nil, or_false] at ht; subst ht; exact ⟨by decide, by decide⟩)).mono ?_
  clear hts kU
  rintro e w3 ⟨b3, (⟨-, p, rfl, hT⟩ | ⟨hbad, -⟩)⟩
  · obtain ⟨g5, b5, n5, hp, -⟩ := id hT
    subst hp
    have H3 : Hid (Blk w3 q (tokL kx) 26 ∧ Blk w3 g (tokL kx) 26 ∧ Below q w w3 ∧ GIn w3 ∧ q < w3.heap.size ∧ g < w3.heap.size) := by
      have hs := HU.out.2.2.2.2
      have bu : Below U.heap.size U w3 := (((Below.refl _ _).alloc (Nat.le_refl _) _).alloc (by simp) _).trans (b3.mono (by simp; omega))
      exact ⟨HU.out.1.below bu hs.1, HU.out.2.1.below bu hs.2, HU.out.2.2.1.trans (bu.mono (by omega)), HU.out.2.2.2.1.below bu HU.out.2.2.2.1.lt, by have := bu.size; omega, by have := bu.size; omega⟩
    have C := CK _ _ w3 hT H3.out.2.2.2.1
    clear b3 CK hT HU
    go_upto_region 8 with (first
      | (go_at_call 18; refine C.mono ?_; rintro e w4 ⟨rfl, b4⟩)
      | (refine wpList_store_mid rfl 26 (.tmp 7) (.tmp 37) rfl w4.heap.size 0 (tokL tok0).toArray rfl rfl ?hT (tok_size _) (tok_all _) ?_; (case hT => exact tok_there _)))
    generalize hX : World.setCells _ _ _ _ = X
    have HX : Hid (Below q w X) := by
      have h1 := H3.out.2.2.2.2.1
      have h2 := b4.size
      show Below q w X
      rw [← hX]
      exact below_setCells (by omega) _ _ _ ((H3.out.2.2.1.trans (b4.mono (by omega))).alloc (by omega) _)
    have x0 : Blk X q (tokL kx) 26 ∧ Blk X g (tokL kx) 26 := by
      have h1 := H3.out.2.2.2.2
      have h2 := b4.size
      have bb : Below w3.heap.size w3 X := by rw [← hX]; exact b4.trans (below_setCells h2 _ _ _ ((Below.refl _ _).alloc h2 _))
      exact ⟨H3.out.1.below bb h1.1, H3.out.2.1.below bb h1.2⟩
    obtain ⟨x0, x1⟩ := x0
    clear hX b4 C H3
    have y0 : X.cell? ⟨q, 0, none⟩ = some (.int .u32 1) := x0.cell 0
    have y1 : X.cell? ⟨q, 1, none⟩ = some (.int .u32 2) := x0.cell 1
    have y2 : X.cell? ⟨q, 2, none⟩ = some (.bool false) := x0.cell 2
    have y3 : X.cell? ⟨q, 3, none⟩ = some (.int .u64 3) := x0.cell 3
    have z0 : X.cell? ⟨g, 0, none⟩ = some (.int .u32 1) := x1.cell 0
    have z1 : X.cell? ⟨g, 1, none⟩ = some (.int .u32 2) := x1.cell 1
    have z2 : X.cell? ⟨g, 2, none⟩ = some (.bool false) := x1.cell 2
    have z3 : X.cell? ⟨g, 3, none⟩ = some (.int .u64 3) := x1.cell 3
    clear x0 x1
    go_wp2
    go_ret
    exact ⟨rfl, HX.out⟩
  · exact absurd k_new hbad
end Go.Proofs.YtpliokkmiijieaaDoor
