/- Lists of numbers in the world, of any kind of integers; appending to a row of the call's own; what one call of the small functions does. -/
import Derived.Test.YteokhkoaieibmaaWMath
import Derived.OwnWalk
import Derived.Lib.EndianBits
namespace Go.Proofs.Yteokhkoaieibmaa
open Go.RowKit
set_option linter.unusedVariables false
set_option maxRecDepth 4000

def kInts (k : IntKind) (S : List Int) : List Value := S.map (Value.int k)
theorem kInts_length (k : IntKind) (L : List Int) : (kInts k L).length = L.length := by simp [kInts]
theorem kInts_one (k : IntKind) (L : List Int) : ∀ v ∈ kInts k L, v.oneCell' = true := by intro v hv; simp [kInts] at hv; obtain ⟨z, _, rfl⟩ := hv; rfl
/-- A list of numbers of a kind that lies in the world. -/
def NIn (k : IntKind) (w : World) (a : Option Addr) (len : Nat) (zs : List Int) : Prop :=
  zs.length = len ∧ len ≤ maxLen ∧ (∀ z ∈ zs, (Lit.int k z).wf = true) ∧
  (len = 0 ∨ ∃ b off, a = some ⟨b, off, none⟩ ∧ ∀ i, i < len → w.cell? ⟨b, off + i, none⟩ = some (.int k (zs.getD i 0)))
theorem NIn.below {k : IntKind} {w w' : World} {a : Option Addr} {len : Nat} {zs : List Int} (h : NIn k w a len zs) (hb : Below w.heap.size w w') : NIn k w' a len zs := by
  obtain ⟨h1, h2, h3, h4⟩ := h
  refine ⟨h1, h2, h3, ?_⟩
  rcases h4 with h4 | ⟨b, off, ha, hc⟩
  · exact .inl h4
  · exact .inr ⟨b, off, ha, fun i hi => by rw [hb.cell (old_block (hc i hi))]; exact hc i hi⟩
theorem nin_none (k : IntKind) (w : World) : NIn k w none 0 [] := ⟨rfl, Nat.zero_le _, by simp, .inl rfl⟩
theorem new_nin {k : IntKind} {t : TypeId} {w : World} {g n : Nat} {L : List Int} {C : Array Value} {fr : Nat × Nat} (hk : w.heap.size = g) (hC : C = (kInts k L).toArray) (hn : L.length = n) (hf : ∀ z ∈ L, (Lit.int k z).wf = true) (hm : n ≤ maxLen) :
    NIn k (w.alloc (.cells C t fr)) (some ⟨g, 0, none⟩) n L := by
  subst hk; subst hC; subst hn
  refine ⟨rfl, hm, hf, .inr ⟨_, 0, rfl, fun i hi => ?_⟩⟩
  rw [Nat.zero_add, World.cell?_alloc_mark]
  simp [kInts, List.getD, hi]
theorem NIn.alloc {k : IntKind} {w : World} {a : Option Addr} {len : Nat} {zs : List Int} (h : NIn k w a len zs) (o : Obj) : NIn k (w.alloc o) a len zs := h.below ((Below.refl _ _).alloc (Nat.le_refl _) o)
theorem NIn.part {k : IntKind} {w : World} {b off len : Nat} {zs : List Int} (h : NIn k w (some ⟨b, off, none⟩) len zs) (i m : Nat) (hik : i + m ≤ len) : NIn k w (some ⟨b, off + i, none⟩) m ((zs.drop i).take m) := by
  obtain ⟨h1, h2, h3, h4⟩ := h
  refine ⟨by rw [List.length_take, List.length_drop, h1]; omega, by omega, fun z hz => h3 z (List.mem_of_mem_drop (List.mem_of_mem_take hz)), ?_⟩
  by_cases h0 : m = 0
  · exact .inl h0
  · obtain ⟨b', off', he, hc⟩ := h4.resolve_left (by omega)
    cases he
    refine .inr ⟨_, _, rfl, fun j hj => ?_⟩
    have := hc (i + j) (by omega)
    rw [Nat.add_assoc, this]
    simp [List.getD, hj]
/-- The front of a list. -/
theorem NIn.front {k : IntKind} {w : World} {a : Option Addr} {len : Nat} {zs : List Int} (h : NIn k w a len zs) (m : Nat) (hm : m ≤ len) : NIn k w a m (zs.take m) := by
  obtain ⟨h1, h2, h3, h4⟩ := h
  refine ⟨by rw [List.length_take, h1]; omega, by omega, fun z hz => h3 z (List.mem_of_mem_take hz), ?_⟩
  by_cases h0 : m = 0
  · exact .inl h0
  · obtain ⟨b', off', he, hc⟩ := h4.resolve_left (by omega)
    refine .inr ⟨_, _, he, fun j hj => ?_⟩
    rw [hc j (by omega)]
    simp [List.getD, hj]
/-- What stands behind the front of a list, by the word that slicing leaves. -/
theorem NIn.back {k : IntKind} {w : World} {a : Option Addr} {len c : Nat} {zs : List Int} (h : NIn k w a len zs) (i : Nat) (hi : i ≤ len) (hc : len ≤ c) : NIn k w (if c = i then a else a.map (·.add i)) (len - i) (zs.drop i) := by
  by_cases h0 : len - i = 0
  · have h1 := h.1
    exact ⟨by rw [List.length_drop, h1], by omega, fun z hz => h.2.2.1 z (List.mem_of_mem_drop hz), .inl h0⟩
  · obtain ⟨b, off, rfl, hcell⟩ := h.2.2.2.resolve_left (by omega)
    rw [if_neg (by omega)]
    have := NIn.part h i (len - i) (by omega)
    rw [List.take_of_length_le (by rw [List.length_drop, h.1]; exact Nat.le_refl _)] at this
    simpa [Addr.add_mid] using this
theorem num_fits {k : IntKind} {B : List Int} (h : ∀ z ∈ B, (Lit.int k z).wf = true) (i : Nat) (hi : i < B.length) : (Lit.int k (B.getD i 0)).wf = true := by
  have : B.getD i 0 = B[i] := by simp [List.getD, hi]
  rw [this]; exact h _ (List.getElem_mem hi)
theorem wf8 {z : Int} (h : Fits8 z) : (Lit.int .u8 z).wf = true := by
  unfold Fits8 at h
  simp [Lit.wf, IntKind.min, IntKind.max, IntKind.signed, IntKind.bits]
  omega
theorem wfU {z : Int} (h : FitsU z) : (Lit.int .u64 z).wf = true := by
  unfold FitsU at h
  simp [Lit.wf, IntKind.min, IntKind.max, IntKind.signed, IntKind.bits]
  omega
theorem fitsU {z : Int} (h : (Lit.int .u64 z).wf = true) : FitsU z := by have := bounds_u64 h; unfold FitsU; omega
theorem fits8 {z : Int} (h : (Lit.int .u8 z).wf = true) : Fits8 z := by have := bounds_u8 h; unfold Fits8; omega
theorem BIn.n {w : World} {a : Option Addr} {len : Nat} {zs : List Int} (h : BIn w a len zs) : NIn .u8 w a len zs := ⟨h.1, h.2.1, fun z hz => wf8 (h.2.2.1 z hz), h.2.2.2⟩
theorem NIn.b {w : World} {a : Option Addr} {len : Nat} {zs : List Int} (h : NIn .u8 w a len zs) : BIn w a len zs := ⟨h.1, h.2.1, fun z hz => fits8 (h.2.2.1 z hz), h.2.2.2⟩
/-- What came in. -/
theorem row_nin {k : IntKind} {w : World} {a : Option Addr} {len cap : Nat} {zs : List Int}
    (h : (a = none ∧ len = 0 ∧ cap = 0 ∧ zs = []) ∨
      ∃ x, a = some x ∧ len ≤ cap ∧ cap ≤ maxLen ∧ zs.length = cap ∧ (∀ i, i < zs.length → w.cell? (x.add i) = some (.int k (zs.getD i 0))) ∧ ∀ n ∈ zs, (Lit.int k n).wf = true) :
    NIn k w a len (zs.take len) ∧ len ≤ cap ∧ (a = none → len = 0 ∧ cap = 0) := by
  rcases h with ⟨rfl, rfl, rfl, rfl⟩ | ⟨x, rfl, hl, hm, hz, hc, hw⟩
  · exact ⟨⟨rfl, Nat.zero_le _, by simp, .inl rfl⟩, Nat.le_refl _, fun _ => ⟨rfl, rfl⟩⟩
  · refine ⟨⟨by simp [hz]; omega, Nat.le_trans hl hm, fun z h => hw z (List.mem_of_mem_take h), ?_⟩, hl, fun h => by cases h⟩
    by_cases h0 : len = 0
    · exact .inl h0
    · have hc0 := hc 0 (by omega)
      obtain ⟨b, off, spot⟩ := x
      have hs : spot = none := by simpa [Addr.add] using World.cell?_spot hc0
      subst hs
      refine .inr ⟨b, off, rfl, fun i hi => ?_⟩
      have := hc i (by omega)
      rw [Addr.add_mid] at this
      simpa [List.getD, List.getElem?_take, hi] using this
/-- What a call owns lies in the world. -/
theorem own_nin {k : IntKind} {t : TypeId} {w : World} {base : Nat} {a : Option Addr} {n c : Nat} {zs : List Int} (h : w.ownsRow base t 1 (.slice a n c) n (kInts k zs)) (hm : n ≤ maxLen) (hz : ∀ z ∈ zs, (Lit.int k z).wf = true) :
    NIn k w a n zs := by
  have hl : zs.length = n := by have := h.1; simp [kInts] at this; omega
  refine ⟨hl, hm, hz, ?_⟩
  rcases h.2 with ⟨hv, hn⟩ | ⟨g, cap, cur, hv, hb, hg, hc, hcm, hsz, htake⟩
  · exact .inl hn
  · cases hv
    refine .inr ⟨g, 0, rfl, fun i hi => ?_⟩
    have hcl := h.cells (g := g) rfl i (.int k (zs.getD i 0)) (by simp [kInts, List.getD, hl, hi])
    rw [Addr.add_mid] at hcl
    exact hcl
theorem own_nilN {t : TypeId} {w : World} {base : Nat} {a : Option Addr} {n c : Nat} {zs : List Value} (h : w.ownsRow base t 1 (.slice a n c) n zs) : a = none → n = 0 ∧ c = 0 := by
  rintro rfl
  rcases h.2 with ⟨hv, hn⟩ | ⟨g, cap, cur, hv, _⟩
  · cases hv; exact ⟨rfl, rfl⟩
  · cases hv
theorem own_capN {t : TypeId} {w : World} {base : Nat} {a : Option Addr} {n c : Nat} {zs : List Value} (h : w.ownsRow base t 1 (.slice a n c) n zs) : n ≤ c := by
  rcases h.2 with ⟨hv, hn⟩ | ⟨g, cap, cur, hv, hb, hg, hc, hcm, hsz, htake⟩
  · omega
  · cases hv; omega
theorem own_lowerN {t : TypeId} {w : World} {base base' : Nat} {v : Value} {n : Nat} {zs : List Value} (h : w.ownsRow base t 1 v n zs) (hb : base' ≤ base) : w.ownsRow base' t 1 v n zs := by
  refine ⟨h.1, ?_⟩
  rcases h.2 with h2 | ⟨g, cap, cur, hv, hbg, hr⟩
  · exact .inl h2
  · exact .inr ⟨g, cap, cur, hv, Nat.le_trans hb hbg, hr⟩
/-- Appending numbers of a kind to a row of the call's own. -/
theorem wpList_append_nin {k : IntKind} {e t : TypeId} {size : Nat} (ht : Try.prog.underlying t = some (.slice e)) (hinfo : (Try.prog.info? e).map (fun i => (i.zero, i.size, i.bytes)) = some (some (.int k 0), 1, size)) (hsz : size ≤ 8)
    {ops : Array Oper} {rest : List Oper} {o : Oper} {a : Act} {Q : Exit → Act → World → Prop} {w : World} (hgd : o.guard = none) (s x : Operand)
    (ho : o.op = .call { callee := .builtin .append, args := #[s, x], argTypes := #[t, t] }) (base : Nat)
    (a0 : Option Addr) (n0 c0 : Nat) (xs : List Int) (hs : a.eval s = .slice a0 n0 c0) (hown : w.ownsRow base e 1 (.slice a0 n0 c0) n0 (kInts k xs))
    (a1 : Option Addr) (n1 c1 : Nat) (zs : List Int) (hx : a.eval x = .slice a1 n1 c1) (hin : NIn k w a1 n1 zs) (hnil : a1 = none → n1 = 0 ∧ c1 = 0)
    (hle : n0 + n1 ≤ 1000000) (hbase : base ≤ w.heap.size)
    (h : ∀ a' c' w', w'.ownsRow base e 1 (.slice a' (n0 + n1) c') (n0 + n1) (kInts k (xs ++ zs)) → Below base w w' → wpList Try.prog ops Q rest (a.put o.dst (.slice a' (n0 + n1) c')) w') :
    wpList Try.prog ops Q (o :: rest) a w := by
  obtain ⟨i0, hi, hz0, hz1, hz2⟩ := info_parts hinfo
  obtain ⟨hl, hm, hfit, hcell⟩ := hin
  cases a1 with
  | none =>
    obtain ⟨rfl, rfl⟩ := hnil rfl
    have : zs = [] := List.length_eq_zero_iff.1 hl
    subst this
    refine wpList_append_own_none hgd s x t ho base e i0 1 ht hi _ n0 (kInts k xs) hs hown hx ?_
    have := h a0 c0 w (by simpa using hown) (Below.refl _ _)
    simpa using this
  | some ad =>
    refine wpList_append_own w hgd s x t ho base e i0 (.int k 0) 1 size ht hi hz0 hz1 hz2 rfl (by decide) _ n0 (kInts k xs) hs hown ad n1 c1 (kInts k zs) hx (by simp [kInts, hl]) ?_ (kInts_one _ _) (by unfold maxLen; omega) ?_ hbase ?_
    · intro j u hj
      have hjl : j < n1 := by
        have := (List.getElem?_eq_some_iff.1 hj).1
        rwa [kInts_length, hl] at this
      rcases hcell with hc | ⟨b, off, ha, hc⟩
      · omega
      · cases ha
        rw [Addr.add_mid, hc j hjl, ← hj]
        simp [kInts, List.getD, hl, hjl]
    · have := Nat.mul_le_mul hle hsz
      omega
    · intro v' w' hown' hgrow _
      have hb : Below base w w' := (Below.refl base w).grown hgrow hbase (fun k hk => (hown.lt k hk).1)
      have hcat : kInts k xs ++ kInts k zs = kInts k (xs ++ zs) := by simp [kInts]
      rw [hcat] at hown'
      obtain ⟨a', c', rfl⟩ : ∃ a' c', v' = .slice a' (n0 + n1) c' := by
        rcases hown'.2 with ⟨hv, hn⟩ | ⟨g, cap, cur, hv, _⟩
        · exact ⟨none, 0, by rw [hv, hn]⟩
        · exact ⟨_, _, hv⟩
      exact h a' c' w' hown' hb
theorem Try.zero_u64 : (Try.prog.info? 24).map (fun i => (i.zero, i.size, i.bytes)) = some (some (.int .u64 0), 1, 8) := by kernel_rfl
theorem u8s_kInts (L : List Int) : u8s L = kInts .u8 L := rfl
theorem byte_one (x : Int) : ∀ z ∈ [x % 256], Fits8 z := by
  intro z hz
  simp only [List.mem_cons, List.not_mem_nil, or_false] at hz
  subst hz
  unfold Fits8
  omega

/-- size and Width tell how many bytes a number of some width has. -/
theorem size_of (x : Int) (w : World) : Calls Try.prog 82 #[.int .i64 x] w fun e w' => e = .returned (.int .i64 (wd x : Nat)) ∧ w' = w := by
  by_cases h1 : x = 1
  · subst h1
    go_enter Try.func82, Try.ntmps82
    go_wp2
    go_ret
    exact ⟨rfl, rfl⟩
  by_cases h2 : x = 2
  · subst h2
    go_enter Try.func82, Try.ntmps82
    go_wp2
    go_ret
    exact ⟨rfl, rfl⟩
  by_cases h4 : x = 4
  · subst h4
    go_enter Try.func82, Try.ntmps82
    go_wp2
    go_ret
    exact ⟨rfl, rfl⟩
  have hw : wd x = 8 := by unfold wd; rw [if_neg h1, if_neg h2, if_neg h4]
  rw [hw]
  go_enter Try.func82, Try.ntmps82
  go_wp2
  go_ret
  exact ⟨rfl, rfl⟩

set_option maxHeartbeats 1000000 in
theorem appendNumber_of (a : Option Addr) (n c : Nat) (xs : List Int) (v : Int) (k : Nat) (base : Nat) (w : World) (ho : w.ownsRow base 5 1 (.slice a n c) n (u8s xs)) (hb : base ≤ w.heap.size) (v0 : 0 ≤ v) (v1 : v < 18446744073709551616) (hk : k ≤ 8) (hn : n ≤ 900000) :
    Calls Try.prog 81 #[.slice a n c, .int .u64 v, .int .i64 k] w fun e w' => ∃ a' c', e = .returned (.slice a' (n + k) c') ∧ w'.ownsRow base 5 1 (.slice a' (n + k) c') (n + k) (u8s (xs ++ bigI k v)) ∧ Below base w w' := by
  have H : Hid (w.ownsRow base 5 1 (.slice a n c) n (u8s xs) ∧ base ≤ w.heap.size) := ⟨ho, hb⟩
  clear ho hb
  go_enter Try.func81, Try.ntmps81
  go_wp2
  go_loopw [0, 9] (fun s i wr => ∃ (j : Nat) (a' : Option Addr) (c' : Nat), j ≤ k ∧ i = .int .i64 j ∧ s = .slice a' (n + j : Nat) c' ∧ wr.ownsRow base 5 1 (.slice a' (n + j) c') (n + j) (u8s (xs ++ (bigI k v).take j)) ∧ Below base w wr ∧ base ≤ wr.heap.size)
    (fun _ i _ => k - (intOf i).toNat)
  case atStart => exact ⟨0, a, c, by omega, rfl, rfl, by simpa using H.out.1, Below.refl _ _, H.out.2⟩
  case round =>
    obtain ⟨j, a', c', hj, rfl, rfl, ow, bl, hs⟩ := hrel
    have HK : Hid (wr.ownsRow base 5 1 (.slice a' (n + j) c') (n + j) (u8s (xs ++ (bigI k v).take j)) ∧ Below base w wr ∧ base ≤ wr.heap.size) := ⟨ow, bl, hs⟩
    clear ow bl hs
    by_cases hlt : j < k
    · have hlt' : (j : Int) < k := by omega
      go_wp2_with (at_builtin; refine wpList_append_bin rfl (.tmp 12) (.tmp 21) rfl base a' (n + j) c' _ rfl (HK.out.1.alloc _) (some ⟨wr.heap.size, 0, none⟩) 1 1 [v / 2 ^ (8 * (k - 1 - j)) % 256] rfl (new_bin rfl rfl rfl (byte_one _) (by unfold maxLen; omega)) (fun h => by cases h) (by omega) (by have := HK.out.2.2; simp; omega) ?_; intro a2 c2 w2 ow2 bl2)
      go_roundw
      case rel =>
        have hbl : Below base w w2 := (HK.out.2.1.alloc HK.out.2.2 _).trans bl2
        refine ⟨j + 1, a2, c2, by omega, by go_num, by rfl, ?_, hbl, by have := bl2.size; have := HK.out.2.2; simp at *; omega⟩
        rw [List.append_assoc, big_take k v hlt] at ow2
        exact ow2
      case measure => simp [intOf]; omega
    · have hge : (k : Int) ≤ j := by omega
      have hjk : j = k := by omega
      subst hjk
      go_wp2
      go_ret
      refine ⟨a', c', rfl, ?_, HK.out.2.1⟩
      have := HK.out.1
      rwa [List.take_of_length_le (by rw [bigI_length]; exact Nat.le_refl _)] at this
end Go.Proofs.Yteokhkoaieibmaa
