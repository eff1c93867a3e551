/- A map of the call's own; what one call of known (of the statements' own) does. -/
import Derived.Test.YtlfmdplaoalahaaRReply
namespace Go.Proofs.Ytlfmdplaoalahaa
open Go.RowKit
set_option linter.unusedVariables false
set_option maxRecDepth 4000

/-- Block b is a map of lengths of the call's own. -/
def OMap (w : World) (b n : Nat) (f : Int → Int) : Prop :=
  (∀ k, Fits32 (f k)) ∧ ∃ D : DataW Value, w.ownsMap Try.prog 25 (plainElem Try.prog 26) b n D ∧ ∀ k, FitsU k → D.atKey (.int .u64 k) (.lit (.int .u32 0)) = .lit (.int .u32 (f k))
theorem Try.key_u64 : Maps.Keyed Try.prog 25 := Maps.int_keyed Try.underlying25
theorem key_of {k : Int} (h : FitsU k) : keyOf Try.prog 25 (.int .u64 k) = some (.int .u64 k) := Maps.keyOf_int_mk Try.underlying25 (wfU h)
theorem Try.zeroV_u32 (w : World) : (zeroValue 26).run Try.prog w = .ok (.int .u32 0) w := by kernel_rfl
theorem wf32 {x : Int} (h : Fits32 x) : (Lit.int .u32 x).wf = true := WalkArith.wf_u32 (by unfold Fits32 at h; omega)
theorem OMap.made (w : World) : OMap (w.alloc (.map #[] 0)) w.heap.size 0 (fun _ => 0) :=
  ⟨fun _ => (by show Fits32 0; unfold Fits32; omega), .map [], World.ownsMap_made w _ _ _, fun k _ => rfl⟩
theorem owns_same {w w' : World} {k : TypeId} {b n : Nat} {R : Value → Option (DataW Value × List MemPlace)} {D : DataW Value} (h : w.ownsMap Try.prog k R b n D) (hs : w'.heap[b]? = w.heap[b]?) : w'.ownsMap Try.prog k R b n D := by
  obtain ⟨es, clock, hb, F, hn, hD⟩ := h
  exact ⟨es, clock, hs.trans hb, F, hn, hD⟩
theorem OMap.lt {w : World} {b n : Nat} {f : Int → Int} (h : OMap w b n f) : b < w.heap.size := by obtain ⟨_, D, h1, _⟩ := h; exact h1.lt
theorem OMap.same {w w' : World} {b n : Nat} {f : Int → Int} (h : OMap w b n f) (hs : w'.heap[b]? = w.heap[b]?) : OMap w' b n f := by
  obtain ⟨h0, D, h1, h2⟩ := h
  exact ⟨h0, D, owns_same h1 hs, h2⟩
theorem OMap.below {w w' : World} {b n : Nat} {f : Int → Int} (h : OMap w b n f) (hb : Below w.heap.size w w') : OMap w' b n f := h.same (hb.block b h.lt)
theorem OMap.alloc {w : World} {b n : Nat} {f : Int → Int} (h : OMap w b n f) (o : Obj) : OMap (w.alloc o) b n f := h.below ((Below.refl _ _).alloc (Nat.le_refl _) o)
theorem OMap.min {w : World} {b n : Nat} {f : Int → Int} (h : OMap w b n f) : MIn w (.map (some b)) f := by
  refine ⟨h.1, some b, rfl, fun b' e => by cases e; exact h.lt, fun w' hs k hk => ?_⟩
  obtain ⟨_, D, h1, h2⟩ := h.same (hs b rfl)
  obtain ⟨c, hrun, hat, _⟩ := h1.lookup_int Try.key_u64 Try.underlying41 Try.underlying26 (Try.zeroV_u32 w') (key_of hk)
  rw [h2 k hk] at hat
  injection hat with hat
  injection hat with _ hat
  rw [hrun, hat]
def putF (f : Int → Int) (i v : Int) : Int → Int := fun k => if k = i then v else f k
theorem OMap.put {w : World} {b n : Nat} {f : Int → Int} (h : OMap w b n f) (hn : n < 1000) {i v : Int} (hi : FitsU i) (hv : Fits32 v) :
    ∃ w', (Instr.mapUpdate 41 (.map (some b)) (.int .u64 i) (.int .u32 v)).run Try.prog w = .ok () w' ∧ OMap w' b (n + 1) (putF f i v) ∧ w.grownBy w' (some b) := by
  obtain ⟨h0, D, h1, h2⟩ := h
  obtain ⟨w', hrun, r1, r2⟩ := h1.update Try.key_u64 Try.underlying41 (show n < maxLen by unfold maxLen; omega) (key_of hi) (val := .int .u32 v) (d := .lit (.int .u32 v)) (ps := []) (plainElem_int Try.underlying26 (wf32 hv))
  have hkl : WideAt.IsKeyLit (.int .u64 i) := Try.key_u64.key (key_of hi)
  refine ⟨w', hrun, ⟨fun k => ?_, _, r1, fun k hk => ?_⟩, r2⟩
  · unfold putF; split
    · exact hv
    · exact h0 k
  · unfold putF
    by_cases he : k = i
    · subst he
      rw [if_pos rfl]
      exact Maps.atKey_put_same h1.isMap hkl _ _
    · have hne : (Lit.int .u64 k) ≠ .int .u64 i := by intro e; injection e with _ e; exact he e
      rw [if_neg he, Maps.atKey_put_other hne]
      exact h2 k hk
theorem blk_grown {w w' : World} {g : Nat} {L : List Value} {t : TypeId} {row : Option Nat} (h : Blk w g L t) (hg : w.grownBy w' row) (hne : some g ≠ row) : Blk w' g L t := by
  unfold Blk
  rw [hg.block g h.lt hne]
  exact h
/-- A request's new variable. -/
theorem req_there (w : World) : (w.alloc (.cells #[.int .u16 0, .int .u16 0, .int .u64 0, .int .u64 0, .int .u32 0, .slice none 0 0] 28)).there w.heap.size 0 6 :=
  (Blk.new' (L := reqL rq0 none 0 0) rfl rfl).there 0 _ (by decide)
theorem req_kept {w U : World} {r : Rq} {A : Option Addr} {k C : Nat} (h : U = (w.alloc (.cells #[.int .u16 0, .int .u16 0, .int .u64 0, .int .u64 0, .int .u32 0, .slice none 0 0] 28)).setCells w.heap.size 0 (reqL r A k C)) : Blk U w.heap.size (reqL r A k C) 28 ∧ Below w.heap.size w U := by
  subst h
  exact ⟨(Blk.new' (L := reqL rq0 none 0 0) rfl rfl).setAll rfl, below_setCells (Nat.le_refl _) _ _ _ ((Below.refl _ _).alloc (Nat.le_refl _) _)⟩
/-- The example's request, its bytes. -/
def rq5 : Rq := ⟨0, 0, 5, 8, 4⟩
theorem rq5_fits : rq5.Fits := by simp [Rq.Fits, rq5, Fits16, FitsU, Fits32]
theorem ex_next : nxR (wrL rq5 []) = rq5 ∧ nxD (wrL rq5 []) = [] ∧ nxC (wrL rq5 []) = 28 ∧ nxE (wrL rq5 []) = 0 := by
  have h := next_whole rq5_fits [] [] (by simp)
  rw [List.append_nil] at h
  exact ⟨h.1, h.2.1, h.2.2.1, h.2.2.2⟩
theorem ex_reps (f : Int → Int) (h : f 5 = 4) : rpList f (rpL 0 5 [97, 98, 99, 100]) = [⟨0, 5, [97, 98, 99, 100]⟩] ∧ rpIs f (rpL 0 5 [97, 98, 99, 100]) = true := by
  have e : rpL 0 5 [97, 98, 99, 100] = [103, 68, 102, 152, 0, 0, 0, 0, 0, 0, 0, 0, 0, 0, 0, 5, 97, 98, 99, 100] := by decide
  have eA : pA (rpL 0 5 [97, 98, 99, 100]) = 0 := by rw [e]; decide
  have eC : pC (rpL 0 5 [97, 98, 99, 100]) = 5 := by rw [e]; decide
  have eM : pM (rpL 0 5 [97, 98, 99, 100]) = rpMagic := by rw [e]; decide
  have eN : pN f (rpL 0 5 [97, 98, 99, 100]) = 4 := by unfold pN; rw [eA, eC, if_pos rfl, h]
  have hs : StepOk f (rpL 0 5 [97, 98, 99, 100]) := ⟨by rw [e]; decide, eM, by rw [eN, e]; decide⟩
  have hr : rpRest f (rpL 0 5 [97, 98, 99, 100]) = [] := by unfold rpRest; rw [eN, e]; rfl
  have ho : rpOne f (rpL 0 5 [97, 98, 99, 100]) = ⟨0, 5, [97, 98, 99, 100]⟩ := by unfold rpOne; rw [eN, eA, eC, e]; rfl
  have ha := rpAll_step hs
  rw [hr, rpAll_nil, ho] at ha
  unfold rpList rpIs
  rw [ha]
  exact ⟨rfl, rfl⟩

set_option maxHeartbeats 2000000 in
theorem rknown_any (w : World) : Calls Try.prog 12 #[] w fun e w' => e = .returned (.bool true) ∧ Below w.heap.size w w' := by
  obtain ⟨q, hq⟩ : ∃ q, q = w.heap.size := ⟨_, rfl⟩
  have HQ : Hid (q = w.heap.size ∧ q ≤ w.heap.size) := ⟨hq, by omega⟩
  rw [← hq]
  clear hq
  go_enter Try.func12, Try.ntmps12
  go_upto_region 2 with (refine wpList_store_req rfl (.tmp 1) (.tmp 9) rfl w.heap.size rq5 none 0 0 rfl rfl ?hT ?_; (case hT => exact req_there _); intro U hU; have H1 : Hid (Blk U w.heap.size (reqL rq5 none 0 0) 28 ∧ Below w.heap.size w U) := (req_kept hU); clear hU)
  have k0 : U.cell? ⟨w.heap.size, 0, none⟩ = some (.int .u16 0) := H1.out.1.cell 0
  have k1 : U.cell? ⟨w.heap.size, 1, none⟩ = some (.int .u16 0) := H1.out.1.cell 1
  have k2 : U.cell? ⟨w.heap.size, 2, none⟩ = some (.int .u64 5) := H1.out.1.cell 2
  have k3 : U.cell? ⟨w.heap.size, 3, none⟩ = some (.int .u64 8) := H1.out.1.cell 3
  have k4 : U.cell? ⟨w.heap.size, 4, none⟩ = some (.int .u32 4) := H1.out.1.cell 4
  have k5 : U.cell? ⟨w.heap.size, 5, none⟩ = some (.slice none 0 0) := H1.out.1.cell 5
  go_wp2_with fail
  refine (write_of rq5 none 0 0 [] U rq5_fits ⟨bin_none _, Nat.le_refl _, fun _ => ⟨rfl, rfl⟩⟩ (by omega)).mono ?_
  rintro e V1 ⟨a1, m1, c1, rfl, ow1, b1⟩
  have hm1 : m1 = 28 := by have := ow1.1; rw [u8s_length, wrL_length] at this; simp [wrD, rq5] at this; omega
  subst hm1
  have H2 : Hid (BIn V1 a1 28 (wrL rq5 []) ∧ (a1 = none → 28 = 0 ∧ c1 = 0) ∧ 28 ≤ c1 ∧ Below q w V1) := ⟨own_bin ow1 (by unfold maxLen; omega) (wrL_fits (by simp)), own_nil ow1, own_capN ow1, by rw [HQ.out.1]; exact below_via H1.out.2 (Nat.le_refl _) b1⟩
  clear ow1 b1 k0 k1 k2 k3 k4 k5
  go_wp2_with fail
  refine (next_of a1 28 c1 (wrL rq5 []) V1 H2.out.1 H2.out.2.1 H2.out.2.2.1 (by omega)).mono ?_
  rw [ex_next.1, ex_next.2.1, ex_next.2.2.1, ex_next.2.2.2]
  rintro e V2 ⟨A2, j2, C2, rfl, d2, -, b2⟩
  have H3 : Hid (Below q w V2) := below_via H2.out.2.2.2 HQ.out.2 b2
  clear d2 b2
  go_upto_region 3 with (refine wpList_store_req rfl (.tmp 2) (.tmp 14) rfl V2.heap.size rq5 A2 j2 C2 rfl rfl ?hT ?_; (case hT => exact req_there _); intro X hX; have H4 : Hid (Blk X V2.heap.size (reqL rq5 A2 j2 C2) 28 ∧ Below V2.heap.size V2 X ∧ V2.heap.size < X.heap.size) := (have hh := req_kept hX; ⟨hh.1, hh.2, hh.1.lt⟩); clear hX)
  obtain ⟨p, hp⟩ : ∃ p, p = V2.heap.size := ⟨_, rfl⟩
  rw [← hp] at H4 ⊢
  have H5 : Hid (Blk X p (reqL rq5 A2 j2 C2) 28 ∧ Below q w X ∧ p < X.heap.size) := ⟨H4.out.1, below_via H3.out HQ.out.2 (by rw [← hp]; exact H4.out.2.1), H4.out.2.2⟩
  clear H4 hp
  have kc := Lib.run_convert_bytes_const (P := Try.prog) X 22 5 #[.int .u8 97, .int .u8 98, .int .u8 99, .int .u8 100] 4 4 Try.underlying22 Try.underlying5
  have hmk : ∀ w : World, (Instr.makeMap 41 none).run Try.prog w = .ok (.map (some w.heap.size)) (w.alloc (.map #[] 0)) := fun _ => rfl
  have nb : ∀ fr, BIn (X.alloc (.cells #[.int .u8 97, .int .u8 98, .int .u8 99, .int .u8 100] 5 fr)) (some ⟨X.heap.size, 0, none⟩) 4 [97, 98, 99, 100] := fun fr => new_bin rfl rfl rfl (by simp [Fits8]) (by unfold maxLen; omega)
  have HN : Hid (∀ fr, BIn (X.alloc (.cells #[.int .u8 97, .int .u8 98, .int .u8 99, .int .u8 100] 5 fr)) (some ⟨X.heap.size, 0, none⟩) 4 [97, 98, 99, 100]) := nb
  clear nb
  go_wp2_with fail
  refine (reply_of 0 5 (some ⟨X.heap.size, 0, none⟩) 4 4 [97, 98, 99, 100] _ ⟨by omega, by omega⟩ ⟨by omega, by omega⟩ (HN.out _) (fun h => by cases h) (by omega)).mono ?_
  rintro e V3 ⟨a3, m3, c3, rfl, ow3, b3⟩
  have hm3 : m3 ≤ 100 := by have := ow3.1; rw [u8s_length] at this; simp [rpL, pack16] at this; omega
  have H6 : Hid (V3.ownsRow (X.heap.size + 1) 5 1 (.slice a3 m3 c3) m3 (u8s (rpL 0 5 [97, 98, 99, 100])) ∧ Blk V3 p (reqL rq5 A2 j2 C2) 28 ∧ Below q w V3 ∧ q ≤ V3.heap.size) := by
    have h1 : Below q w V3 := below_via (below_more H5.out.2.1 HQ.out.2 _) HQ.out.2 b3
    exact ⟨by simpa using ow3, (H5.out.1.alloc _).below b3 (by have := H5.out.2.2; simp; omega), h1, Nat.le_trans HQ.out.2 h1.size⟩
  clear ow3 b3
  obtain ⟨V4, hput, om, gr⟩ := (OMap.made V3).put (by omega) (i := 5) (v := 4) ⟨by omega, by omega⟩ ⟨by omega, by omega⟩
  have H7 : Hid (MIn V4 (.map (some V3.heap.size)) (putF (fun _ => 0) 5 4) ∧ BIn V4 a3 m3 (rpL 0 5 [97, 98, 99, 100]) ∧ (a3 = none → m3 = 0 ∧ c3 = 0) ∧ m3 ≤ c3 ∧ Blk V4 p (reqL rq5 A2 j2 C2) 28 ∧ Below q w V4) := by
    have h1 := (H6.out.1.alloc (.map #[] 0)).kept gr (by
      cases hb : (Value.slice a3 m3 c3).ownBlock with
      | none => exact .inl rfl
      | some g => right; have := (H6.out.1.lt g hb).2; intro e; injection e with e; omega)
    refine ⟨om.min, own_bin h1 (by unfold maxLen; omega) ?_, own_nil h1, own_capN h1, ?_, ?_⟩
    · intro z hz
      rcases List.mem_append.1 hz with hz | hz
      · exact packL_fits _ _ z hz
      · simp at hz; unfold Fits8; omega
    · exact blk_grown (H6.out.2.1.alloc _) gr (by have := H6.out.2.1.lt; intro e; injection e with e; omega)
    · exact (H6.out.2.2.1.alloc H6.out.2.2.2 _).grown gr (by simp; have := H6.out.2.2.2; omega) (fun k hk => by injection hk with hk; subst hk; exact H6.out.2.2.2)
  clear om gr
  go_wp2_with fail
  refine (replies_of a3 m3 c3 (rpL 0 5 [97, 98, 99, 100]) (.map (some V3.heap.size)) (putF (fun _ => 0) 5 4) V4 H7.out.2.1 H7.out.2.2.1 H7.out.2.2.2.1 H7.out.1 (by omega)).mono ?_
  rw [(ex_reps (putF (fun _ => 0) 5 4) rfl).1, (ex_reps (putF (fun _ => 0) 5 4) rfl).2]
  rintro e V5 ⟨A5, k5, C5, A6, C6, A7, C7, rfl, n5, n6, n7, b5⟩
  have hk5 : k5 = 1 := n5.1.symm
  subst hk5
  obtain ⟨g5, o5, rfl, f5⟩ := n5.2.2.2.resolve_left (by omega)
  obtain ⟨g6, o6, rfl, f6⟩ := n6.2.2.2.resolve_left (by omega)
  obtain ⟨g7, o7, rfl, f7⟩ := n7.2.2.resolve_left (by omega)
  have t5 : V5.cell? ⟨g5, o5, none⟩ = some (.int .u32 0) := f5 0 (by omega)
  have t6 : V5.cell? ⟨g6, o6, none⟩ = some (.int .u64 5) := f6 0 (by omega)
  obtain ⟨A8, L8, C8, t7, s7⟩ := f7 0 [97, 98, 99, 100] rfl
  have t7' : V5.cell? ⟨g7, o7, none⟩ = some (.slice A8 L8 C8) := t7
  have hs := str_of V5 A8 L8 C8 _ s7
  rw [show strOfNums [97, 98, 99, 100] = ⟨#[97, 98, 99, 100]⟩ by kernel_rfl] at hs
  have y9 := H7.out.2.2.2.2.1.below b5 H7.out.2.2.2.2.1.lt
  have y2 : V5.cell? ⟨p, 2, none⟩ = some (.int .u64 5) := y9.cell 2
  have y3 : V5.cell? ⟨p, 3, none⟩ = some (.int .u64 8) := y9.cell 3
  have y4 : V5.cell? ⟨p, 4, none⟩ = some (.int .u32 4) := y9.cell 4
  have H8 : Hid (Below q w V5) := below_via H7.out.2.2.2.2.2 HQ.out.2 b5
  clear n5 n6 n7 f5 f6 f7 t7 s7 y9 b5 hm3
  go_wp2
  go_ret
  exact ⟨rfl, H8.out⟩
end Go.Proofs.Ytlfmdplaoalahaa
