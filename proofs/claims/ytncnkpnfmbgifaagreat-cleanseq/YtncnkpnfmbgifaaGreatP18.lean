/- Texts of this seat, one behind the other: SRight, SgNew, NumK, SgL. -/
import Derived.Test.YtncnkpnfmbgifaaGreatP8
import Derived.Test.YtncnkpnfmbgifaaGreatP17
import Derived.BigRegion
import Derived.Test.YtncnkpnfmbgifaaGreatP5
import Derived.OwnWalk
import Derived.BigQuiet
/- What one call of Right does, the program's and the document's; of Small. -/
namespace Go.Proofs.YtncnkpnfmbgifaaGreat
open Go.RowKit
set_option linter.unusedVariables false
set_option maxRecDepth 4000

end Go.Proofs.YtncnkpnfmbgifaaGreat

/- What one call of New does. -/
namespace Go.Proofs.YtncnkpnfmbgifaaGreat
open Go.RowKit
set_option linter.unusedVariables false
set_option maxRecDepth 4000

def fillZ (N k : Nat) : List Int := (newZ N).take k ++ List.replicate (N - k) 0
theorem fill_length {N k : Nat} (h : 2 ≤ N) (hk : k ≤ N) : (fillZ N k).length = N := by
 unfold fillZ; rw [List.length_append, List.length_take, newZ_length h, List.length_replicate]; omega
theorem newZ_at {N k : Nat} (h : k < N) (h2 : 2 ≤ N) : (newZ N)[k]? = some (if k < 2 then 4 else 1) := by
 unfold newZ
 match k, h with
 | 0, _ => rfl
 | 1, _ => rfl
 | k + 2, h =>
  rw [List.getElem?_cons_succ, List.getElem?_cons_succ, List.getElem?_replicate, if_pos (by omega), if_neg (by omega)]
theorem fill_step {N k : Nat} (h : k < N) (h2 : 2 ≤ N) : (fillZ N k).set k (if k < 2 then 4 else 1) = fillZ N (k + 1) := by
 unfold fillZ
 have hl : ((newZ N).take k).length = k := by rw [List.length_take, newZ_length h2]; omega
 rw [take_snoc (newZ_at h h2), List.set_append_right _ _ (by omega), hl, Nat.sub_self]
 obtain ⟨m, hm⟩ : ∃ m, N - k = m + 1 := ⟨N - k - 1, by omega⟩
 have hm' : N - (k + 1) = m := by omega
 rw [hm, hm', List.replicate_succ, List.set_cons_zero, List.append_assoc]; rfl
theorem fill_all (N : Nat) (h2 : 2 ≤ N) : fillZ N N = newZ N := by
 unfold fillZ
 rw [Nat.sub_self, List.replicate_zero, List.append_nil, List.take_of_length_le (by rw [newZ_length h2]; omega)]
theorem fill_none (N : Nat) : fillZ N 0 = List.replicate N 0 := by simp [fillZ]
theorem newZ_fit (N : Nat) : ∀ x ∈ newZ N, x = 4 ∨ x = 1 := by
 intro x hx
 simp only [newZ, List.mem_cons, List.mem_replicate] at hx
 omega
theorem fill_fit (N k : Nat) : ∀ x ∈ fillZ N k, Fits8 x := by
 intro x hx
 unfold fillZ at hx
 rw [List.mem_append, List.mem_replicate] at hx
 unfold Fits8
 rcases hx with hx | hx
 ·have := newZ_fit N x (List.mem_of_mem_take hx); omega
 ·omega
def NewGot (w : World) (s : Sh) (e : Ending) (w' : World) : Prop :=
 (¬ RightS s ∧ e = .returned (.pointer none) ∧ Below w.heap.size w w') ∨
 (RightS s ∧ ∃ p g, e = .returned (.pointer (some ⟨p, 0, none⟩)) ∧ SegP w' p g s.r (newZ s.z.toNat) ∧ w.heap.size ≤ p ∧ w.heap.size ≤ g ∧ Below w.heap.size w w')
theorem gNew_of (s : Sh) (w : World) (hz : -9223372036854775808 ≤ s.z) :
  Calls Tryz.prog 118 #[.agg (shL s).toArray] w fun e w' => NewGot w s e w' := by
 have hr := right_of s (w.alloc (.cells (shL s).toArray 23)) hz
 obtain ⟨z, zb, b, r⟩ := s
 obtain ⟨W, hW⟩ : ∃ W, W = w.alloc (.cells (shL ⟨z, zb, b, r⟩).toArray 23) := ⟨_, rfl⟩
 have bw : Below w.heap.size w W := by rw [hW]; exact (Below.refl _ _).alloc (Nat.le_refl _) _
 have hs : W.heap.size = w.heap.size + 1 := by rw [hW]; simp
 have hbk : Blk W w.heap.size (shL ⟨z, zb, b, r⟩) 23 := by rw [hW]; exact Blk.new' rfl rfl
 rw [← hW] at hr
 have HH : Hid (Below w.heap.size w W ∧ W.heap.size = w.heap.size + 1 ∧ Blk W w.heap.size (shL ⟨z, zb, b, r⟩) 23) := ⟨bw, hs, hbk⟩
 have HW : Hid (W = w.alloc (.cells (shL ⟨z, zb, b, r⟩).toArray 23)) := hW
 by_cases hR : RightS ⟨z, zb, b, r⟩
 ·rw [decide_eq_true hR] at hr
  have HR : Hid (Calls Tryz.prog 115 #[.agg (shL ⟨z, zb, b, r⟩).toArray] W fun e w' => e = .returned (.bool true) ∧ Below W.heap.size W w') := hr
  have HQ : Hid (RightS ⟨z, zb, b, r⟩) := hR
  clear hr hR hbk hs bw hW hz
  simp only [shL] at *
  go_enter Tryz.func118, Tryz.ntmps118
  go_upto_region 3 with (go_at_call 115; rw [← HW.out]; refine HR.out.mono ?_; rintro e w1 ⟨rfl, hb1⟩)
  have hw1 : Blk w1 w.heap.size [.int .i64 z, .int .i64 zb, .int .i64 b, .int .i64 r] 23 := HH.out.2.2.below hb1 (by have := HH.out.2.1; omega)
  have c0 : w1.cell? ⟨w.heap.size, 0, none⟩ = some (.int .i64 z) := hw1.cell 0
  have c3 : w1.cell? ⟨w.heap.size, 3, none⟩ = some (.int .i64 r) := hw1.cell 3
  obtain ⟨N, hN⟩ : ∃ N : Nat, z = N := ⟨z.toNat, by have := HQ.out.1; simp only at this; omega⟩
  have hN1 : 6 ≤ N ∧ N ≤ 256 := by have := HQ.out.1; have := HQ.out.2.1; simp only at *; omega
  have c3' : (w1.alloc (.cells (madeCells #[.int .u8 0] N) 5)).cell? ⟨w.heap.size, 3, none⟩ = some (.int .i64 r) := (hw1.alloc _).cell 3
  clear hw1
  subst hN
  have hmk := run_make_row' (P := Tryz.prog) 43 5 (.int .u8 0) 1 Tryz.underlying43 Tryz.zero_u8 rfl .i64 .i64 N (by omega) (by omega)
  go_region
  have hmade := made_bytes N w1
  have hV0 : SegP ((w1.alloc (.cells (madeCells #[.int .u8 0] N) 5)).alloc (.cells #[.slice (some ⟨w1.heap.size, 0, none⟩) N N, .int .i64 r] 118)).drew (w1.heap.size + 1) w1.heap.size r (fillZ N 0) := by
   have e0 := fill_length (N := N) (k := 0) (by omega) (Nat.zero_le _)
   refine ⟨?_, ?_, by rw [e0]; omega, fill_fit N 0⟩
   ·rw [e0]; exact (Blk.new' (by simp) rfl).drew
   ·rw [fill_none]; exact (hmade.alloc _).drew
  have hlo : w.heap.size ≤ w1.heap.size := by have := hb1.size; have := HH.out.2.1; omega
  have hVb : Below w.heap.size w ((w1.alloc (.cells (madeCells #[.int .u8 0] N) 5)).alloc (.cells #[.slice (some ⟨w1.heap.size, 0, none⟩) N N, .int .i64 r] 118)).drew :=
   (((HH.out.1.trans (below_less hb1 (by have := HH.out.2.1; omega))).alloc hlo _).alloc (by simp; omega) _).drew
  generalize hV : World.drew _ = V at hV0 hVb ⊢
  generalize hq : w1.heap.size = q at hV0 hlo ⊢
  have HV : Hid (SegP V (q + 1) q r (fillZ N 0) ∧ w.heap.size ≤ q ∧ Below w.heap.size w V) := ⟨hV0, hlo, hVb⟩
  have c4 : V.cell? ⟨q + 1, 0, none⟩ = some (.slice (some ⟨q, 0, none⟩) N N) := by have := hV0.c0; rwa [fill_length (by omega) (Nat.zero_le _)] at this
  clear hV hq hV0 hlo hVb hmade hmk c0 c3 c3' hb1
  go_wp2
  go_loopw [20] (fun i wr => ∃ k : Nat, i = .int .i64 k ∧ k ≤ N ∧ SegP wr (q + 1) q r (fillZ N k) ∧ Below w.heap.size w wr) (fun i wr => N - (intOf i).toNat)
  case atStart => exact ⟨0, rfl, Nat.zero_le _, HV.out.1, HV.out.2.2⟩
  case round =>
   obtain ⟨k, rfl, hk, hsg, hbw⟩ := hrel
   have HI : Hid (SegP wr (q + 1) q r (fillZ N k) ∧ Below w.heap.size w wr) := ⟨hsg, hbw⟩
   have hfl := fill_length (N := N) (k := k) (by omega) hk
   have d0 := hsg.c0
   rw [hfl] at d0
   rcases Nat.lt_or_ge k N with hlt | hge
   ·have d1 := hsg.at (i := k) (by rw [hfl]; exact hlt)
    have d2 := hsg.free k
    have hst := fun (b : Int) (hb : Fits8 b) => hsg.set k hb
    have hw : IntKind.i64.wrap ((k : Int) + 1) = (k : Int) + 1 := by rw [IntKind.wrap_i64]; omega
    generalize (fillZ N k).getD k 0 = X at d1
    have HT : Hid (∀ b : Int, Fits8 b → b = (if k < 2 then 4 else 1) → SegP (wr.setCell ⟨q, k, none⟩ (.int .u8 b)) (q + 1) q r (fillZ N (k + 1)) ∧ Below w.heap.size w (wr.setCell ⟨q, k, none⟩ (.int .u8 b))) := by
     intro b hb hbe
     have := hst b hb
     rw [hbe, fill_step hlt (by omega)] at this
     rw [hbe]
     exact ⟨this, hbw.setCell (by exact HV.out.2.1) _⟩
    clear hst hsg hbw hfl
    by_cases h2 : k < 2
    ·have h2' : (k : Int) < 2 := by omega
     have H2 : Hid (k < 2) := h2
     clear h2
     go_wp2
     go_roundw
     case rel => exact ⟨k + 1, by simp, by omega, (HT.out 4 (by unfold Fits8; omega) (by rw [if_pos H2.out])).1, (HT.out 4 (by unfold Fits8; omega) (by rw [if_pos H2.out])).2⟩
     case measure => simp [intOf]; omega
    ·have h2' : ¬ (k : Int) < 2 := by omega
     have H2 : Hid (¬ k < 2) := h2
     clear h2
     go_wp2
     go_roundw
     case rel => exact ⟨k + 1, by simp, by omega, (HT.out 1 (by unfold Fits8; omega) (by rw [if_neg H2.out])).1, (HT.out 1 (by unfold Fits8; omega) (by rw [if_neg H2.out])).2⟩
     case measure => simp [intOf]; omega
   ·obtain rfl : k = N := by omega
    clear hsg hbw hfl
    go_wp2
    go_ret
    refine .inr ⟨HQ.out, q + 1, q, rfl, ?_, by have := HV.out.2.1; omega, HV.out.2.1, HI.out.2⟩
    have := HI.out.1
    rw [fill_all _ (by omega)] at this
    exact this
 ·rw [decide_eq_false hR] at hr
  have HR : Hid (Calls Tryz.prog 115 #[.agg (shL ⟨z, zb, b, r⟩).toArray] W fun e w' => e = .returned (.bool false) ∧ Below W.heap.size W w') := hr
  have HQ : Hid (¬ RightS ⟨z, zb, b, r⟩) := hR
  clear hr hR hbk hs bw hW hz
  simp only [shL] at *
  go_enter Tryz.func118, Tryz.ntmps118
  go_wp2_with (go_at_call 115; rw [← HW.out]; refine HR.out.mono ?_; rintro e w1 ⟨rfl, hb1⟩)
  go_ret
  exact .inl ⟨HQ.out, rfl, HH.out.1.trans (below_less hb1 (by have := HH.out.2.1; omega))⟩
end Go.Proofs.YtncnkpnfmbgifaaGreat

/- Lists of numbers in the world, of any kind of integers; appending to a row of the call's own. -/
namespace Go.Proofs.YtncnkpnfmbgifaaGreat
open Go.RowKit
set_option linter.unusedVariables false
set_option maxRecDepth 4000

theorem Tryz.zero_int : (Tryz.prog.info? 3).map (fun i => (i.zero, i.size, i.bytes)) = some (some (.int .i64 0), 1, 8) := by kernel_rfl
theorem grownBy_refl (w : World) (r : Option Nat) : w.grownBy w r := ⟨rfl, rfl, rfl, Nat.le_refl _, fun _ _ _ => rfl⟩
theorem wpList_append_kept {k : IntKind} {e t : TypeId} {size : Nat} (ht : Tryz.prog.underlying t = some (.slice e)) (hinfo : (Tryz.prog.info? e).map (fun i => (i.zero, i.size, i.bytes)) = some (some (.int k 0), 1, size)) (hsz : size ≤ 8)
  {ops : Array Oper} {rest : List Oper} {o : Oper} {a : Act} {Q : Exit → Act → World → Prop} {w : World} (hgd : o.guard = none) (s x : Operand)
  (ho : o.op = .call { callee := .builtin .append, args := #[s, x], argTypes := #[t, t] }) (base : Nat)
  (a0 : Option Addr) (n0 c0 : Nat) (xs : List Int) (hs : a.eval s = .slice a0 n0 c0) (hown : w.ownsRow base e 1 (.slice a0 n0 c0) n0 (kInts k xs))
  (a1 : Option Addr) (n1 c1 : Nat) (zs : List Int) (hx : a.eval x = .slice a1 n1 c1) (hin : NIn k w a1 n1 zs) (hnil : a1 = none → n1 = 0 ∧ c1 = 0)
  (hle : n0 + n1 ≤ 1000000) (hbase : base ≤ w.heap.size)
  (h : ∀ a' c' w', w'.ownsRow base e 1 (.slice a' (n0 + n1) c') (n0 + n1) (kInts k (xs ++ zs)) → Below base w w' → w.grownBy w' (Value.slice a0 n0 c0).ownBlock → wpList Tryz.prog ops Q rest (a.put o.dst (.slice a' (n0 + n1) c')) w') :
  wpList Tryz.prog ops Q (o :: rest) a w := by
 obtain ⟨i0, hi, hz0, hz1, hz2⟩ := info_parts hinfo
 obtain ⟨hl, hm, hfit, hcell⟩ := hin
 cases a1 with
 | none =>
  obtain ⟨rfl, rfl⟩ := hnil rfl
  have : zs = [] := List.length_eq_zero_iff.1 hl
  subst this
  refine wpList_append_own_none hgd s x t ho base e i0 1 ht hi _ n0 (kInts k xs) hs hown hx ?_
  have := h a0 c0 w (by simpa using hown) (Below.refl _ _) (grownBy_refl _ _)
  simpa using this
 | some ad =>
  refine wpList_append_own w hgd s x t ho base e i0 (.int k 0) 1 size ht hi hz0 hz1 hz2 rfl (by decide) _ n0 (kInts k xs) hs hown ad n1 c1 (kInts k zs) hx (by simp [kInts, hl]) ?_ (kInts_one _ _) (by unfold maxLen; omega) ?_ hbase ?_
  ·intro j u hj
   have hjl : j < n1 := by
    have := (List.getElem?_eq_some_iff.1 hj).1
    rwa [kInts_length, hl] at this
   rcases hcell with hc | ⟨b, off, ha, hc⟩
   ·omega
   ·cases ha
    rw [Addr.add_mid, hc j hjl, ← hj]
    simp [kInts, List.getD, hl, hjl]
  ·have := Nat.mul_le_mul hle hsz
   omega
  ·intro v' w' hown' hgrow _
   have hb : Below base w w' := (Below.refl base w).grown hgrow hbase (fun k hk => (hown.lt k hk).1)
   have hcat : kInts k xs ++ kInts k zs = kInts k (xs ++ zs) := by simp [kInts]
   rw [hcat] at hown'
   obtain ⟨a', c', rfl⟩ : ∃ a' c', v' = .slice a' (n0 + n1) c' := by
    rcases hown'.2 with ⟨hv, hn⟩ | ⟨g, cap, cur, hv, _⟩
    ·exact ⟨none, 0, by rw [hv, hn]⟩
    ·exact ⟨_, _, hv⟩
   exact h a' c' w' hown' hb hgrow
theorem Blk.grownR {w w' : World} {q : Nat} {L : List Value} {t : TypeId} {row : Option Nat} (h : Blk w q L t) (hg : w.grownBy w' row) (hne : row ≠ some q) : Blk w' q L t := by
 unfold Blk; rw [hg.block q h.lt (fun e => hne e.symm)]; exact h
theorem own_not {w : World} {B : Nat} {e : TypeId} {s n : Nat} {v : Value} {xs : List Value} {q : Nat} {L : List Value} {t : TypeId} (ho : w.ownsRow B e s v n xs) (hb : Blk w q L t) (ht : t ≠ e) : v.ownBlock ≠ some q := fun h => by
 obtain ⟨cur, hc⟩ := own_at_block ho h
 have e2 : some (Obj.cells L.toArray t (0, 0)) = some (Obj.cells cur e (0, 0)) := (hb : w.heap[q]? = _).symm.trans hc
 simp only [Option.some.injEq, Obj.cells.injEq] at e2
 exact ht e2.2.1
end Go.Proofs.YtncnkpnfmbgifaaGreat

/- What one call of each, List, Low does. -/
namespace Go.Proofs.YtncnkpnfmbgifaaGreat
open Go.RowKit
set_option linter.unusedVariables false
set_option maxRecDepth 4000

def F63 (z : Int) : Prop := -9223372036854775808 ≤ z ∧ z < 9223372036854775808
theorem wfI {z : Int} (h : F63 z) : (Lit.int .i64 z).wf = true := by
 unfold F63 at h
 simp [Lit.wf, IntKind.min, IntKind.max, IntKind.signed, IntKind.bits]
 omega
def LS (B q : Nat) (W : World) (xs : List Int) : Prop :=
 ∃ A c, Blk W q [.slice A xs.length c] 62 ∧ W.ownsRow B 3 1 (.slice A xs.length c) xs.length (kInts .i64 xs) ∧ B ≤ q ∧ B ≤ W.heap.size
def CS (B q : Nat) (W : World) (n : Nat) : Prop := Blk W q [.int .i64 n] 3 ∧ B ≤ q

theorem gListC_of (B q i : Nat) (xs : List Int) (w : World) (h : LS B q w xs) (hl : xs.length ≤ 300) (hi : i ≤ 300) :
  Calls Tryz.prog 66 #[.int .i64 i, .pointer (some ⟨q, 0, none⟩)] w fun e w' => e = .returned (.tuple #[]) ∧ LS B q w' (xs ++ [(i : Int)]) ∧ Below B w w' := by
 obtain ⟨A, c, hq, ho, hB, hs⟩ := h
 have c0 : w.cell? ⟨q, 0, none⟩ = some (.slice A xs.length c) := hq.cell 0
 generalize hn : xs.length = n at *
 have HH : Hid (Blk w q [.slice A n c] 62 ∧ w.ownsRow B 3 1 (.slice A n c) n (kInts .i64 xs) ∧ B ≤ q ∧ B ≤ w.heap.size ∧ n ≤ 300 ∧ i ≤ 300 ∧ xs.length = n) := ⟨hq, ho, hB, hs, hl, hi, hn⟩
 clear hq ho hB hs hl hi hn
 go_enter Tryz.func66, Tryz.ntmps66
 go_wp2_with (at_builtin; refine wpList_append_kept (k := .i64) Tryz.underlying62 Tryz.zero_int (by omega) rfl (.tmp 3) (.tmp 5) rfl B A n c _ rfl (HH.out.2.1.alloc _) (some ⟨w.heap.size, 0, none⟩) 1 1 [(i : Int)] rfl (new_nin rfl rfl rfl (fun z hz => by simp at hz; subst hz; exact wfI (by have := HH.out.2.2.2.2.2.1; unfold F63; omega)) (by unfold maxLen; omega)) (fun h => by cases h) (by have := HH.out.2.2.2.2.1; omega) (by have := HH.out.2.2.2.1; simp; omega) ?_; intro a2 c2 w2 ow2 bl2 gr2; have hb2 : Blk w2 q [.slice A n c] 62 := (HH.out.1.alloc _).grownR gr2 (own_not HH.out.2.1 HH.out.1 (by decide)); have c2q : w2.cell? ⟨q, 0, none⟩ = some (.slice A n c) := hb2.cell 0; have z2q := hb2.frozen 0; have HB : Hid (Blk w2 q [.slice A n c] 62 ∧ w2.ownsRow B 3 1 (.slice a2 (n + 1) c2) (n + 1) (kInts .i64 (xs ++ [(i : Int)])) ∧ Below B (w.alloc (.cells #[.int .i64 i] 3)) w2) := ⟨hb2, ow2, bl2⟩; clear hb2 ow2 bl2 gr2)
 first | go_end0 | refine bodyPost_ret (results_none rfl _ _ _) rfl ?_
 have hl : (xs ++ [(i : Int)]).length = n + 1 := by simp [HH.out.2.2.2.2.2.2]
 refine ⟨rfl, ⟨a2, c2, ?_, ?_, HH.out.2.2.1, ?_⟩, ?_⟩
 ·rw [hl]; exact HB.out.1.set 0 _
 ·rw [hl]; exact (out_one w2 q 0 _).own HB.out.2.1 (fun g hg e => own_not HB.out.2.1 HB.out.1 (by decide) (by rw [← e]; exact hg))
 ·have := HB.out.2.2.size; have := HH.out.2.2.2.1; simp [World.setCell] at *; omega
 ·exact ((((Below.refl B w).alloc HH.out.2.2.2.1 _).trans HB.out.2.2).setCell (by exact HH.out.2.2.1) _)
theorem gLowC_of (B q i n : Nat) (w : World) (h : CS B q w n) (hl : n ≤ 300) :
  Calls Tryz.prog 152 #[.int .i64 i, .pointer (some ⟨q, 0, none⟩)] w fun e w' => e = .returned (.tuple #[]) ∧ CS B q w' (n + 1) ∧ Below B w w' := by
 have c0 : w.cell? ⟨q, 0, none⟩ = some (.int .i64 n) := h.1.cell 0
 have z0 := h.1.frozen 0
 have HH : Hid (CS B q w n) := h
 have hw : IntKind.i64.wrap ((n : Int) + 1) = (n : Int) + 1 := by rw [IntKind.wrap_i64]; omega
 clear h hl
 go_enter Tryz.func152, Tryz.ntmps152
 go_wp2
 first | go_end0 | refine bodyPost_ret (results_none rfl _ _ _) rfl ?_
 refine ⟨rfl, ⟨?_, HH.out.2⟩, (Below.refl B w).setCell (by exact HH.out.2) _⟩
 have := HH.out.1.set 0 (.int .i64 ((n : Int) + 1))
 simpa using this
end Go.Proofs.YtncnkpnfmbgifaaGreat
