/- Texts of this seat, one behind the other: CkMath, WNum, WTail, WNumber. -/
import Derived.Test.YtncnkpnfmbgifaaGreatP1
import Derived.Test.YtncnkpnfmbgifaaGreatP4
import Derived.OwnWalk
import Derived.Lib.EndianBits
import Derived.StillTailTactics
import Derived.Test.YtncnkpnfmbgifaaGreatP2
import Derived.WalkLawsBesides
/- Checkpoints as blocks, and back: plain mathematics. -/
namespace Go.Proofs.YtncnkpnfmbgifaaGreat
open Go.RowKit
set_option linter.unusedVariables false
set_option maxRecDepth 4000

abbrev Pr := Int × Int
abbrev Pl := Pr × Pr
def I64 (z : Int) : Prop := -9223372036854775808 ≤ z ∧ z < 9223372036854775808
def FitsN (x : Pr) : Prop := Fits32 x.1 ∧ FitsU x.2
def FitsS (x : Pr) : Prop := I64 x.1 ∧ I64 x.2
def FitsP (p : Pl) : Prop := FitsN p.1 ∧ FitsS p.2
def ltP (x y : Pr) : Bool := decide (x.1 < y.1 ∨ (x.1 = y.1 ∧ x.2 < y.2))
theorem ltP_iff (x y : Pr) : ltP x y = true ↔ (x.1 < y.1 ∨ (x.1 = y.1 ∧ x.2 < y.2)) := by unfold ltP; simp

def hkW : List Int := [4, 4, 4, 4, 8, 2]
def plW : List Int := [4, 8, 2, 2]
def plV (p : Pl) : List Int := [p.1.1, p.1.2, p.2.1, p.2.2]
def hkV (i m seq n : Int) : List Int := [1129009236, 0, i, m, seq, n]
def plB (p : Pl) : List Int := packL plW (plV p)
def hkB (i m seq n : Int) : List Int := packL hkW (hkV i m seq n)
theorem plB_eq (p : Pl) : plB p = bigI 4 p.1.1 ++ (bigI 8 p.1.2 ++ (bigI 2 p.2.1 ++ bigI 2 p.2.2)) := by simp [plB, plW, plV, packL, wd]
theorem hkB_eq (i m seq n : Int) : hkB i m seq n = bigI 4 1129009236 ++ (bigI 4 0 ++ (bigI 4 i ++ (bigI 4 m ++ (bigI 8 seq ++ bigI 2 n)))) := by simp [hkB, hkW, hkV, packL, wd]
theorem plB_length (p : Pl) : (plB p).length = 16 := by simp [plB_eq, bigI_length]
theorem hkB_length (i m seq n : Int) : (hkB i m seq n).length = 26 := by simp [hkB_eq, bigI_length]
theorem plB_fits (p : Pl) : ∀ z ∈ plB p, Fits8 z := packL_fits _ _
theorem hkB_fits (i m seq n : Int) : ∀ z ∈ hkB i m seq n, Fits8 z := packL_fits _ _
def plsB (ps : List Pl) : List Int := ps.flatMap plB
theorem plsB_snoc (ps : List Pl) (p : Pl) : plsB (ps ++ [p]) = plsB ps ++ plB p := by simp [plsB]
theorem plsB_length (ps : List Pl) : (plsB ps).length = 16 * ps.length := by
 induction ps with
 | nil => rfl
 | cons p r ih =>
  have e : plsB (p :: r) = plB p ++ plsB r := by simp [plsB]
  rw [e, List.length_append, plB_length, ih, List.length_cons]; omega
theorem plsB_fits (ps : List Pl) : ∀ z ∈ plsB ps, Fits8 z := by
 intro z hz
 obtain ⟨p, _, hp⟩ := List.mem_flatMap.1 hz
 exact plB_fits p z hp
def frontK (i m seq : Int) (ps : List Pl) : List Int := hkB i m seq ps.length ++ plsB ps
theorem frontK_length (i m seq : Int) (ps : List Pl) : (frontK i m seq ps).length = 26 + 16 * ps.length := by rw [frontK, List.length_append, hkB_length, plsB_length]
def ckP (N : Nat) (i m seq : Int) (ps : List Pl) : List Int := frontK i m seq ps ++ List.replicate (N - 1 - (26 + 16 * ps.length)) 0 ++ [231]
def ckB (N : Nat) (i m seq : Int) (ps : List Pl) : List Int := joinL (ckP N i m seq ps)
section
variable {N : Nat} {i m seq : Int} {ps : List Pl}
theorem ckP_length (h : 27 + 16 * ps.length ≤ N) : (ckP N i m seq ps).length = N := by
 simp only [ckP, List.length_append, frontK_length, List.length_replicate, List.length_singleton]; omega
theorem ckP_fits : ∀ z ∈ ckP N i m seq ps, Fits8 z := by
 intro z hz
 simp only [ckP, frontK, List.mem_append, List.mem_replicate, List.mem_singleton] at hz
 rcases hz with ((h | h) | ⟨_, h⟩) | h
 ·exact hkB_fits _ _ _ _ z h
 ·exact plsB_fits _ z h
 ·subst h; unfold Fits8; omega
 ·subst h; unfold Fits8; omega
theorem ckP_eight : 8 ≤ (ckP N i m seq ps).length := by
 simp only [ckP, List.length_append, frontK_length]; omega
theorem ckB_length (h : 27 + 16 * ps.length ≤ N) : (ckB N i m seq ps).length = N := by rw [ckB, join_length ckP_eight, ckP_length h]
theorem ckB_fits : ∀ z ∈ ckB N i m seq ps, Fits8 z := join_fits ckP_fits
end

def Fit2 (p : Pl) : Prop := FitsN p.1 ∧ Fits16 p.2.1 ∧ Fits16 p.2.2
def roomK (b : Int) : Int := if b ∈ PowR then (b - 27) / 16 else 0
theorem roomK_pow {b : Int} (h : b ∈ PowR) : 2 ≤ roomK b ∧ 27 + 16 * roomK b ≤ b ∧ roomK b ≤ 254 := by
 have := pow_bounds h
 unfold roomK
 rw [if_pos h]
 omega
def Rises (ps : List Pl) : Prop := ∀ i p q, ps[i]? = some p → ps[i + 1]? = some q → ltP p.1 q.1 = true
def InSh (s : Sh) (p : Pl) : Prop := 2 ≤ p.2.1 ∧ p.2.1 < s.z ∧ 0 ≤ p.2.2 ∧ p.2.2 < s.zb
def GoodK (s : Sh) (ps : List Pl) : Prop := RightS s ∧ Rises ps ∧ ∀ p ∈ ps, InSh s p
def roomN (s : Sh) : Nat := (roomK s.b).toNat
def manyN (r n : Nat) : Nat := max 1 ((n + r - 1) / r)
def partK (r i : Nat) (ps : List Pl) : List Pl := (ps.drop (i * r)).take r
def mK (s : Sh) (ps : List Pl) : Nat := manyN (roomN s) ps.length
def ckL (s : Sh) (seq : Int) (ps : List Pl) : List (List Int) := (List.range (mK s ps)).map fun i : Nat => ckB s.b.toNat i (mK s ps : Nat) seq (partK (roomN s) i ps)
open Classical in
noncomputable def ckE (s : Sh) (ps : List Pl) : Int := if GoodK s ps then (if (mK s ps : Int) ≤ s.zb then 0 else 140) else 141
open Classical in
noncomputable def ckO (s : Sh) (seq : Int) (ps : List Pl) : List (List Int) := if ckE s ps = 0 then ckL s seq ps else []
theorem ckE_zero {s : Sh} {ps : List Pl} : ckE s ps = 0 ↔ GoodK s ps ∧ (mK s ps : Int) ≤ s.zb := by
 unfold ckE
 split
 ·split
  ·simp [*]
  ·simp [*]
 ·simp [*]
theorem roomN_pos {s : Sh} (h : RightS s) : 2 ≤ roomN s ∧ 27 + 16 * roomN s ≤ s.b.toNat ∧ roomN s ≤ 254 := by
 have hb : s.b ∈ PowR := h.2.2.2.2.1
 have h1 := roomK_pow hb
 have h2 := pow_bounds hb
 unfold roomN
 omega
theorem manyN_all {r n : Nat} (hr : 0 < r) : n ≤ manyN r n * r := by
 have h1 := Nat.div_add_mod (n + r - 1) r
 have h2 := Nat.mod_lt (n + r - 1) hr
 have h3 : (n + r - 1) / r ≤ manyN r n := by unfold manyN; omega
 have h4 : (n + r - 1) / r * r ≤ manyN r n * r := Nat.mul_le_mul_right r h3
 rw [Nat.mul_comm] at h1
 omega
theorem partK_length_le (r i : Nat) (ps : List Pl) : (partK r i ps).length ≤ r := by unfold partK; rw [List.length_take]; omega
theorem ckL_length (s : Sh) (seq : Int) (ps : List Pl) : (ckL s seq ps).length = mK s ps := by simp [ckL]
theorem ckL_at {s : Sh} {seq : Int} {ps : List Pl} {i : Nat} (h : i < mK s ps) : (ckL s seq ps)[i]? = some (ckB s.b.toNat i (mK s ps : Nat) seq (partK (roomN s) i ps)) := by
 unfold ckL
 rw [List.getElem?_map, List.getElem?_range h]
 rfl
theorem ckL_mem {s : Sh} {seq : Int} {ps : List Pl} {b : List Int} (h : b ∈ ckL s seq ps) : ∃ i, i < mK s ps ∧ b = ckB s.b.toNat (i : Nat) (mK s ps : Nat) seq (partK (roomN s) i ps) := by
 unfold ckL at h
 obtain ⟨i, hi, rfl⟩ := List.mem_map.1 h
 exact ⟨i, List.mem_range.1 hi, rfl⟩
theorem good_fit2 {s : Sh} {ps : List Pl} (h : GoodK s ps) (hn : ∀ p ∈ ps, FitsN p.1) : ∀ p ∈ ps, Fit2 p := by
 intro p hp
 have h1 := h.2.2 p hp
 have h2 := h.1
 unfold InSh at h1
 unfold RightS at h2
 exact ⟨hn p hp, by unfold Fits16; omega, by unfold Fits16; omega⟩
theorem part_mem {r i : Nat} {ps : List Pl} {p : Pl} (h : p ∈ partK r i ps) : p ∈ ps := List.mem_of_mem_drop (List.mem_of_mem_take h)

section
variable {s : Sh} {l : List (List Int)}
end
end Go.Proofs.YtncnkpnfmbgifaaGreat

/- Lists of numbers in the world, of any kind of integers; appending to a row of the call's own; what one call of the small functions does. -/
namespace Go.Proofs.YtncnkpnfmbgifaaGreat
open Go.RowKit
set_option linter.unusedVariables false
set_option maxRecDepth 4000

def kInts (k : IntKind) (S : List Int) : List Value := S.map (Value.int k)
theorem kInts_length (k : IntKind) (L : List Int) : (kInts k L).length = L.length := by simp [kInts]
theorem kInts_one (k : IntKind) (L : List Int) : ∀ v ∈ kInts k L, v.oneCell' = true := by intro v hv; simp [kInts] at hv; obtain ⟨z, _, rfl⟩ := hv; rfl
def NIn (k : IntKind) (w : World) (a : Option Addr) (len : Nat) (zs : List Int) : Prop :=
 zs.length = len ∧ len ≤ maxLen ∧ (∀ z ∈ zs, (Lit.int k z).wf = true) ∧
 (len = 0 ∨ ∃ b off, a = some ⟨b, off, none⟩ ∧ ∀ i, i < len → w.cell? ⟨b, off + i, none⟩ = some (.int k (zs.getD i 0)))
theorem NIn.below {k : IntKind} {w w' : World} {a : Option Addr} {len : Nat} {zs : List Int} (h : NIn k w a len zs) (hb : Below w.heap.size w w') : NIn k w' a len zs := by
 obtain ⟨h1, h2, h3, h4⟩ := h
 refine ⟨h1, h2, h3, ?_⟩
 rcases h4 with h4 | ⟨b, off, ha, hc⟩
 ·exact .inl h4
 ·exact .inr ⟨b, off, ha, fun i hi => by rw [hb.cell (old_block (hc i hi))]; exact hc i hi⟩
theorem new_nin {k : IntKind} {t : TypeId} {w : World} {g n : Nat} {L : List Int} {C : Array Value} {fr : Nat × Nat} (hk : w.heap.size = g) (hC : C = (kInts k L).toArray) (hn : L.length = n) (hf : ∀ z ∈ L, (Lit.int k z).wf = true) (hm : n ≤ maxLen) :
  NIn k (w.alloc (.cells C t fr)) (some ⟨g, 0, none⟩) n L := by
 subst hk; subst hC; subst hn
 refine ⟨rfl, hm, hf, .inr ⟨_, 0, rfl, fun i hi => ?_⟩⟩
 rw [Nat.zero_add, World.cell?_alloc_mark]
 simp [kInts, List.getD, hi]
theorem NIn.alloc {k : IntKind} {w : World} {a : Option Addr} {len : Nat} {zs : List Int} (h : NIn k w a len zs) (o : Obj) : NIn k (w.alloc o) a len zs := h.below ((Below.refl _ _).alloc (Nat.le_refl _) o)
theorem num_fits {k : IntKind} {B : List Int} (h : ∀ z ∈ B, (Lit.int k z).wf = true) (i : Nat) (hi : i < B.length) : (Lit.int k (B.getD i 0)).wf = true := by
 have : B.getD i 0 = B[i] := by simp [List.getD, hi]
 rw [this]; exact h _ (List.getElem_mem hi)
theorem wf8 {z : Int} (h : Fits8 z) : (Lit.int .u8 z).wf = true := by
 unfold Fits8 at h
 simp [Lit.wf, IntKind.min, IntKind.max, IntKind.signed, IntKind.bits]
 omega
theorem wfU {z : Int} (h : FitsU z) : (Lit.int .u64 z).wf = true := by
 unfold FitsU at h
 simp [Lit.wf, IntKind.min, IntKind.max, IntKind.signed, IntKind.bits]
 omega
theorem fitsU {z : Int} (h : (Lit.int .u64 z).wf = true) : FitsU z := by have := bounds_u64 h; unfold FitsU; omega
theorem own_nin {k : IntKind} {t : TypeId} {w : World} {base : Nat} {a : Option Addr} {n c : Nat} {zs : List Int} (h : w.ownsRow base t 1 (.slice a n c) n (kInts k zs)) (hm : n ≤ maxLen) (hz : ∀ z ∈ zs, (Lit.int k z).wf = true) :
  NIn k w a n zs := by
 have hl : zs.length = n := by have := h.1; simp [kInts] at this; omega
 refine ⟨hl, hm, hz, ?_⟩
 rcases h.2 with ⟨hv, hn⟩ | ⟨g, cap, cur, hv, hb, hg, hc, hcm, hsz, htake⟩
 ·exact .inl hn
 ·cases hv
  refine .inr ⟨g, 0, rfl, fun i hi => ?_⟩
  have hcl := h.cells (g := g) rfl i (.int k (zs.getD i 0)) (by simp [kInts, List.getD, hl, hi])
  rw [Addr.add_mid] at hcl
  exact hcl
theorem own_lowerN {t : TypeId} {w : World} {base base' : Nat} {v : Value} {n : Nat} {zs : List Value} (h : w.ownsRow base t 1 v n zs) (hb : base' ≤ base) : w.ownsRow base' t 1 v n zs := by
 refine ⟨h.1, ?_⟩
 rcases h.2 with h2 | ⟨g, cap, cur, hv, hbg, hr⟩
 ·exact .inl h2
 ·exact .inr ⟨g, cap, cur, hv, Nat.le_trans hb hbg, hr⟩
theorem wpList_append_nin {k : IntKind} {e t : TypeId} {size : Nat} (ht : Tryz.prog.underlying t = some (.slice e)) (hinfo : (Tryz.prog.info? e).map (fun i => (i.zero, i.size, i.bytes)) = some (some (.int k 0), 1, size)) (hsz : size ≤ 8)
  {ops : Array Oper} {rest : List Oper} {o : Oper} {a : Act} {Q : Exit → Act → World → Prop} {w : World} (hgd : o.guard = none) (s x : Operand)
  (ho : o.op = .call { callee := .builtin .append, args := #[s, x], argTypes := #[t, t] }) (base : Nat)
  (a0 : Option Addr) (n0 c0 : Nat) (xs : List Int) (hs : a.eval s = .slice a0 n0 c0) (hown : w.ownsRow base e 1 (.slice a0 n0 c0) n0 (kInts k xs))
  (a1 : Option Addr) (n1 c1 : Nat) (zs : List Int) (hx : a.eval x = .slice a1 n1 c1) (hin : NIn k w a1 n1 zs) (hnil : a1 = none → n1 = 0 ∧ c1 = 0)
  (hle : n0 + n1 ≤ 1000000) (hbase : base ≤ w.heap.size)
  (h : ∀ a' c' w', w'.ownsRow base e 1 (.slice a' (n0 + n1) c') (n0 + n1) (kInts k (xs ++ zs)) → Below base w w' → wpList Tryz.prog ops Q rest (a.put o.dst (.slice a' (n0 + n1) c')) w') :
  wpList Tryz.prog ops Q (o :: rest) a w := by
 obtain ⟨i0, hi, hz0, hz1, hz2⟩ := info_parts hinfo
 obtain ⟨hl, hm, hfit, hcell⟩ := hin
 cases a1 with
 | none =>
  obtain ⟨rfl, rfl⟩ := hnil rfl
  have : zs = [] := List.length_eq_zero_iff.1 hl
  subst this
  refine wpList_append_own_none hgd s x t ho base e i0 1 ht hi _ n0 (kInts k xs) hs hown hx ?_
  have := h a0 c0 w (by simpa using hown) (Below.refl _ _)
  simpa using this
 | some ad =>
  refine wpList_append_own w hgd s x t ho base e i0 (.int k 0) 1 size ht hi hz0 hz1 hz2 rfl (by decide) _ n0 (kInts k xs) hs hown ad n1 c1 (kInts k zs) hx (by simp [kInts, hl]) ?_ (kInts_one _ _) (by unfold maxLen; omega) ?_ hbase ?_
  ·intro j u hj
   have hjl : j < n1 := by
    have := (List.getElem?_eq_some_iff.1 hj).1
    rwa [kInts_length, hl] at this
   rcases hcell with hc | ⟨b, off, ha, hc⟩
   ·omega
   ·cases ha
    rw [Addr.add_mid, hc j hjl, ← hj]
    simp [kInts, List.getD, hl, hjl]
  ·have := Nat.mul_le_mul hle hsz
   omega
  ·intro v' w' hown' hgrow _
   have hb : Below base w w' := (Below.refl base w).grown hgrow hbase (fun k hk => (hown.lt k hk).1)
   have hcat : kInts k xs ++ kInts k zs = kInts k (xs ++ zs) := by simp [kInts]
   rw [hcat] at hown'
   obtain ⟨a', c', rfl⟩ : ∃ a' c', v' = .slice a' (n0 + n1) c' := by
    rcases hown'.2 with ⟨hv, hn⟩ | ⟨g, cap, cur, hv, _⟩
    ·exact ⟨none, 0, by rw [hv, hn]⟩
    ·exact ⟨_, _, hv⟩
   exact h a' c' w' hown' hb
theorem byte_one (x : Int) : ∀ z ∈ [x % 256], Fits8 z := by
 intro z hz
 simp only [List.mem_cons, List.not_mem_nil, or_false] at hz
 subst hz
 unfold Fits8
 omega

theorem size_of (x : Int) (w : World) : Calls Tryz.prog 222 #[.int .i64 x] w fun e w' => e = .returned (.int .i64 (wd x : Nat)) ∧ w' = w := by
 by_cases h1 : x = 1
 ·subst h1
  go_enter Tryz.func222, Tryz.ntmps222
  go_wp2
  go_ret
  exact ⟨rfl, rfl⟩
 by_cases h2 : x = 2
 ·subst h2
  go_enter Tryz.func222, Tryz.ntmps222
  go_wp2
  go_ret
  exact ⟨rfl, rfl⟩
 by_cases h4 : x = 4
 ·subst h4
  go_enter Tryz.func222, Tryz.ntmps222
  go_wp2
  go_ret
  exact ⟨rfl, rfl⟩
 have hw : wd x = 8 := by unfold wd; rw [if_neg h1, if_neg h2, if_neg h4]
 rw [hw]
 go_enter Tryz.func222, Tryz.ntmps222
 go_wp2
 go_ret
 exact ⟨rfl, rfl⟩

set_option maxHeartbeats 1000000 in
theorem appendNumber_of (a : Option Addr) (n c : Nat) (xs : List Int) (v : Int) (k : Nat) (base : Nat) (w : World) (ho : w.ownsRow base 5 1 (.slice a n c) n (u8s xs)) (hb : base ≤ w.heap.size) (v0 : 0 ≤ v) (v1 : v < 18446744073709551616) (hk : k ≤ 8) (hn : n ≤ 900000) :
  Calls Tryz.prog 221 #[.slice a n c, .int .u64 v, .int .i64 k] w fun e w' => ∃ a' c', e = .returned (.slice a' (n + k) c') ∧ w'.ownsRow base 5 1 (.slice a' (n + k) c') (n + k) (u8s (xs ++ bigI k v)) ∧ Below base w w' := by
 have H : Hid (w.ownsRow base 5 1 (.slice a n c) n (u8s xs) ∧ base ≤ w.heap.size) := ⟨ho, hb⟩
 clear ho hb
 go_enter Tryz.func221, Tryz.ntmps221
 go_wp2
 go_loopw [0, 9] (fun s i wr => ∃ (j : Nat) (a' : Option Addr) (c' : Nat), j ≤ k ∧ i = .int .i64 j ∧ s = .slice a' (n + j : Nat) c' ∧ wr.ownsRow base 5 1 (.slice a' (n + j) c') (n + j) (u8s (xs ++ (bigI k v).take j)) ∧ Below base w wr ∧ base ≤ wr.heap.size)
  (fun _ i _ => k - (intOf i).toNat)
 case atStart => exact ⟨0, a, c, by omega, rfl, rfl, by simpa using H.out.1, Below.refl _ _, H.out.2⟩
 case round =>
  obtain ⟨j, a', c', hj, rfl, rfl, ow, bl, hs⟩ := hrel
  have HK : Hid (wr.ownsRow base 5 1 (.slice a' (n + j) c') (n + j) (u8s (xs ++ (bigI k v).take j)) ∧ Below base w wr ∧ base ≤ wr.heap.size) := ⟨ow, bl, hs⟩
  clear ow bl hs
  by_cases hlt : j < k
  ·have hlt' : (j : Int) < k := by omega
   go_wp2_with (at_builtin; refine wpList_append_bin rfl (.tmp 12) (.tmp 21) rfl base a' (n + j) c' _ rfl (HK.out.1.alloc _) (some ⟨wr.heap.size, 0, none⟩) 1 1 [v / 2 ^ (8 * (k - 1 - j)) % 256] rfl (new_bin rfl rfl rfl (byte_one _) (by unfold maxLen; omega)) (fun h => by cases h) (by omega) (by have := HK.out.2.2; simp; omega) ?_; intro a2 c2 w2 ow2 bl2)
   go_roundw
   case rel =>
    have hbl : Below base w w2 := (HK.out.2.1.alloc HK.out.2.2 _).trans bl2
    refine ⟨j + 1, a2, c2, by omega, by go_num, by rfl, ?_, hbl, by have := bl2.size; have := HK.out.2.2; simp at *; omega⟩
    rw [List.append_assoc, big_take k v hlt] at ow2
    exact ow2
   case measure => simp [intOf]; omega
  ·have hge : (k : Int) ≤ j := by omega
   have hjk : j = k := by omega
   subst hjk
   go_wp2
   go_ret
   refine ⟨a', c', rfl, ?_, HK.out.2.1⟩
   have := HK.out.1
   rwa [List.take_of_length_le (by rw [bigI_length]; exact Nat.le_refl _)] at this
end Go.Proofs.YtncnkpnfmbgifaaGreat

/- A region whose order is open but for its tail (as in Hash, for a seat without sha). -/
namespace Go.Proofs.YtncnkpnfmbgifaaGreat
open Go.RowKit
set_option linter.unusedVariables false
set_option maxRecDepth 4000
theorem region_tail {P : Program} {id : Nat} {Q : Exit → Act → World → Prop} {a : Act} {w : World} {l : List Oper} (n : Nat) (hm : P.follows .mixedOrders = true) (hB : Region.lexTailB .any l.toArray n = true)
  (h : wpStill P l.toArray w.drew (fun a' => wpList P l.toArray Q (l.drop n) a' w.drew) (l.take n) a) : (Code.region id l.toArray true).wp P Q a w := wp_region_still_tail n hm hB h
end Go.Proofs.YtncnkpnfmbgifaaGreat

/- What one call of a reader's number does. -/
namespace Go.Proofs.YtncnkpnfmbgifaaGreat
open Go.RowKit
set_option linter.unusedVariables false
set_option maxRecDepth 4000

end Go.Proofs.YtncnkpnfmbgifaaGreat
