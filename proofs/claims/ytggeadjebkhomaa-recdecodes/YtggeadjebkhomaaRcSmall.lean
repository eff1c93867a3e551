/- What one call of rec's small functions does: Room, right, the widths, Ends, bytes.Equal; of the document's Room and Ends. -/
import Derived.Test.YtggeadjebkhomaaRcMath
import Derived.Test.YtggeadjebkhomaaWLaw
import Derived.Test.YtggeadjebkhomaaCSum
namespace Go.Proofs.Ytggeadjebkhomaa
open Go.RowKit
set_option linter.unusedVariables false
set_option maxRecDepth 4000

theorem and_powR : ∀ n : Fin 4097, 64 ≤ n.val → (decide (bits BinOp.and IntKind.i64 (n.val : Int) ((n.val : Int) - 1) = 0) = decide ((n.val : Int) ∈ PowR)) := by decide +kernel
theorem and_ofR {b : Int} (h1 : 64 ≤ b) (h2 : b ≤ 4096) : bits BinOp.and IntKind.i64 b (b - 1) = 0 ↔ b ∈ PowR := by
  have := and_powR ⟨b.toNat, by omega⟩ (by show 64 ≤ b.toNat; omega)
  have e : ((b.toNat : Nat) : Int) = b := by omega
  simp only [e] at this
  exact decide_eq_decide.1 this
theorem room_none {b : Int} (h : ¬ b ∈ PowR) : roomI b = 0 := by unfold roomI; rw [if_neg h]
set_option maxHeartbeats 1000000 in
theorem room_of (b : Int) (w : World) : Calls Try.prog 13 #[.int .i64 b] w fun e w' => e = .returned (.int .i64 (roomI b)) ∧ w' = w := by
  obtain ⟨R, hR⟩ : ∃ R, R = roomI b := ⟨_, rfl⟩
  rw [← hR]
  by_cases h1 : b < 64
  · have hf : R = 0 := by rw [hR]; exact room_none (fun h => by have := pow_bounds h; omega)
    clear hR
    subst hf
    go_enter Try.func13, Try.ntmps13
    go_wp2
    go_ret
    exact ⟨rfl, rfl⟩
  · have h1' : 64 ≤ b := by omega
    by_cases h2 : 4096 < b
    · have hf : R = 0 := by rw [hR]; exact room_none (fun h => by have := pow_bounds h; omega)
      clear hR
      subst hf
      clear h1
      go_enter Try.func13, Try.ntmps13
      go_wp2
      go_ret
      exact ⟨rfl, rfl⟩
    · have h2' : b ≤ 4096 := by omega
      clear h1 h2
      have hw : IntKind.i64.wrap (b - 1) = b - 1 := by rw [IntKind.wrap_i64]; omega
      have hw2 : IntKind.i64.wrap (b - 18) = b - 18 := by rw [IntKind.wrap_i64]; omega
      have hw3 : IntKind.i64.wrap (b - 18 - 1) = b - 18 - 1 := by rw [IntKind.wrap_i64]; omega
      by_cases hp : b ∈ PowR
      · have hand := (and_ofR h1' h2').2 hp
        have hf : R = (b - 18 - 1) / 19 := by rw [hR]; unfold roomI; rw [if_pos hp]; congr 1; omega
        clear hR hp
        subst hf
        go_enter Try.func13, Try.ntmps13
        go_wp2
        go_ret
        exact ⟨rfl, rfl⟩
      · have hand : (bits BinOp.and IntKind.i64 b (b - 1) != 0) = true := by simp; exact fun h => hp ((and_ofR h1' h2').1 h)
        have hf : R = 0 := by rw [hR]; exact room_none hp
        clear hR hp
        subst hf
        go_enter Try.func13, Try.ntmps13
        go_wp2
        go_ret
        exact ⟨rfl, rfl⟩

def itL (x : It) : List Value := [.int .u32 x.t, .int .u64 x.b, .int .u8 x.k, .int .u32 x.s, .int .u16 x.e]
set_option maxHeartbeats 1000000 in
theorem cright_of (x : It) (w : World) : Calls Try.prog 34 #[.agg (itL x).toArray] w fun e w' => e = .returned (.bool (decide (RightI x))) ∧ Below w.heap.size w w' := by
  obtain ⟨t, b, k, s, e⟩ := x
  obtain ⟨B, hB⟩ : ∃ B, B = decide (RightI ⟨t, b, k, s, e⟩) := ⟨_, rfl⟩
  rw [← hB]
  have bw : Hid (∀ o, Below w.heap.size w (w.alloc o)) := fun o => (Below.refl _ _).alloc (Nat.le_refl _) o
  simp only [itL]
  by_cases h1 : k = 1
  · subst h1
    have hf : B = decide (e ≤ 4096) := by rw [hB]; simp [RightI]
    clear hB
    subst hf
    go_enter Try.func34, Try.ntmps34
    go_wp2
    go_ret
    exact ⟨rfl, bw.out _⟩
  · by_cases h2 : k = 2
    · subst h2
      clear h1
      by_cases h3 : s = 0
      · subst h3
        have hf : B = (e == 0) := by rw [hB]; simp [RightI]; by_cases h : e = 0 <;> simp [h]
        clear hB
        subst hf
        go_enter Try.func34, Try.ntmps34
        go_wp2
        go_ret
        exact ⟨rfl, bw.out _⟩
      · have hf : B = false := by rw [hB]; simp [RightI, h3]
        clear hB
        subst hf
        go_enter Try.func34, Try.ntmps34
        go_wp2
        go_ret
        exact ⟨rfl, bw.out _⟩
    · have hf : B = false := by rw [hB]; simp [RightI, h1, h2]
      clear hB
      subst hf
      go_enter Try.func34, Try.ntmps34
      go_wp2
      go_ret
      exact ⟨rfl, bw.out _⟩

theorem headW_of (w : World) : Calls Try.prog 33 #[] w fun e w' => e = .returned (.slice (some ⟨w.heap.size, 0, none⟩) 4 4) ∧ w' = w.alloc (.cells #[.int .i64 4, .int .i64 4, .int .i64 8, .int .i64 2] 3) := by
  go_enter Try.func33, Try.ntmps33
  go_wp2
  go_ret
  exact ⟨rfl, rfl⟩
theorem itemW_of (w : World) : Calls Try.prog 35 #[] w fun e w' => e = .returned (.slice (some ⟨w.heap.size, 0, none⟩) 5 5) ∧ w' = w.alloc (.cells #[.int .i64 4, .int .i64 8, .int .i64 1, .int .i64 4, .int .i64 2] 3) := by
  go_enter Try.func35, Try.ntmps35
  go_wp2
  go_ret
  exact ⟨rfl, rfl⟩
theorem nin_lit (t : TypeId) {w : World} {g n : Nat} {L : List Int} {C : Array Value} {fr : Nat × Nat} (hk : w.heap.size = g) (hC : C = (kInts .i64 L).toArray) (hn : L.length = n) (hf : (L.all fun z => (Lit.int .i64 z).wf) = true) (hm : n ≤ 1000) :
    NIn .i64 (w.alloc (.cells C t fr)) (some ⟨g, 0, none⟩) n L := new_nin hk hC hn (List.all_eq_true.1 hf) (by unfold maxLen; omega)
theorem nin_litU (t : TypeId) {w : World} {g n : Nat} {L : List Int} {C : Array Value} {fr : Nat × Nat} (hk : w.heap.size = g) (hC : C = (kInts .u64 L).toArray) (hn : L.length = n) (hf : ∀ z ∈ L, FitsU z) (hm : n ≤ 1000) :
    NIn .u64 (w.alloc (.cells C t fr)) (some ⟨g, 0, none⟩) n L := new_nin hk hC hn (fun z hz => wfU (hf z hz)) (by unfold maxLen; omega)
theorem nin_hd {w : World} {g : Nat} (h : w.heap.size = g) : NIn .i64 (w.alloc (.cells #[.int .i64 4, .int .i64 4, .int .i64 8, .int .i64 2] 3)) (some ⟨g, 0, none⟩) 4 hdW := nin_lit 3 h rfl rfl rfl (by omega)
theorem nin_it {w : World} {g : Nat} (h : w.heap.size = g) : NIn .i64 (w.alloc (.cells #[.int .i64 4, .int .i64 8, .int .i64 1, .int .i64 4, .int .i64 2] 3)) (some ⟨g, 0, none⟩) 5 itW := nin_lit 3 h rfl rfl rfl (by omega)
theorem hdV_fits {s n : Int} (hs : FitsU s) (hn : FitsU n) : ∀ z ∈ hdV s n, FitsU z := by
  intro z hz
  simp only [hdV, List.mem_cons, List.not_mem_nil, or_false] at hz
  rcases hz with rfl | rfl | rfl | rfl
  · unfold FitsU; omega
  · unfold FitsU; omega
  · exact hs
  · exact hn
theorem itV_fits {x : It} (h : x.Fits) : ∀ z ∈ itV x, FitsU z := by
  obtain ⟨h1, h2, h3, h4, h5⟩ := h
  unfold Fits32 at h1 h4
  unfold FitsU at h2
  unfold Fits8 at h3
  unfold Fits16 at h5
  intro z hz
  simp only [itV, List.mem_cons, List.not_mem_nil, or_false] at hz
  unfold FitsU
  rcases hz with rfl | rfl | rfl | rfl | rfl <;> omega


set_option maxHeartbeats 1000000 in
theorem ends_of (a : Option Addr) (n c : Nat) (zs : List Int) (w : World) (h : BIn w a n zs) : Calls Try.prog 21 #[.slice a n c] w fun e w' => e = .returned (.int .i64 (endsN zs : Nat)) ∧ w' = w := by
  obtain ⟨E, hE⟩ : ∃ E, E = endsN zs := ⟨_, rfl⟩
  have hat := ends_at zs
  rw [← hE] at hat ⊢
  have hm := h.2.1
  unfold maxLen at hm
  have H : Hid (BIn w a n zs ∧ EndsAt zs E) := ⟨h, hat⟩
  clear h hat hE
  go_enter Try.func21, Try.ntmps21
  go_wp2
  go_loopw [3] (fun x wr => ∃ i : Nat, x = .int .i64 i ∧ i ≤ n ∧ E ≤ i ∧ wr = w) (fun x _ => (intOf x).toNat)
  case atStart => exact ⟨n, rfl, Nat.le_refl _, by have := H.out.2.1; have := H.out.1.1; omega, rfl⟩
  case round =>
    obtain ⟨i, rfl, hi, hEi, rfl⟩ := hrel
    rcases Nat.eq_zero_or_pos i with h0 | hp
    · obtain rfl : E = 0 := by omega
      subst h0
      go_wp2
      go_ret
      exact ⟨rfl, rfl⟩
    · obtain ⟨b, off, rfl, hc⟩ := H.out.1.2.2.2.resolve_left (by omega)
      obtain ⟨j, rfl⟩ : ∃ j, i = j + 1 := ⟨i - 1, by omega⟩
      have hcj := hc j (by omega)
      have hf := byte_fits H.out.1.2.2.1 j
      obtain ⟨z, hz⟩ : ∃ z, z = zs.getD j 0 := ⟨_, rfl⟩
      rw [← hz] at hcj hf
      have HZ : Hid (z = zs.getD j 0) := hz
      clear hc hz
      have hj0 : (0 : Int) < (j : Int) + 1 := by omega
      have hjn : (j : Int) < n := by omega
      have hw : IntKind.i64.wrap ((j : Int) + 1 - 1) = j := by rw [IntKind.wrap_i64]; omega
      by_cases hz0 : z = 0
      · subst hz0
        have HE : Hid (E ≤ j) := by
          show E ≤ j
          rcases H.out.2.2.2 with h | h
          · omega
          · rcases Nat.lt_or_ge j E with h' | h'
            · obtain rfl : E = j + 1 := by omega
              exact (h HZ.out.symm).elim
            · exact h'
        go_wp2
        go_roundw
        case rel => exact ⟨j, by go_num, by omega, HE.out, by first | rfl | trivial⟩
        case measure => simp [intOf]
      · have hz' : (z == 0) = false := by simp [hz0]
        have HE : Hid (E = j + 1) := by
          show E = j + 1
          rcases Nat.lt_or_ge j E with h' | h'
          · omega
          · exact (hz0 (HZ.out.trans (H.out.2.2.1 j h'))).elim
        clear hz0
        go_wp2
        go_ret
        exact ⟨by rw [HE.out]; rfl, rfl⟩
theorem str_ne {xs ys : List Int} (hx : ∀ z ∈ xs, Fits8 z) (hy : ∀ z ∈ ys, Fits8 z) (h : xs ≠ ys) : strOfNums xs ≠ strOfNums ys := by
  intro e
  apply h
  have e1 : (xs.map fun n => UInt8.ofNat n.toNat) = ys.map fun n => UInt8.ofNat n.toNat := by rw [← strOfNums_data, ← strOfNums_data, e]
  have hl : xs.length = ys.length := by simpa using congrArg List.length e1
  apply List.ext_getElem hl
  intro i h1 h2
  have e2 : (xs.map fun n => UInt8.ofNat n.toNat)[i]'(by simpa using h1) = (ys.map fun n => UInt8.ofNat n.toNat)[i]'(by simpa using h2) := by simp only [e1]
  simp only [List.getElem_map] at e2
  have e3 := congrArg UInt8.toNat e2
  have f1 := hx _ (List.getElem_mem h1)
  have f2 := hy _ (List.getElem_mem h2)
  unfold Fits8 at f1 f2
  simp only [UInt8.toNat_ofNat'] at e3
  omega
theorem str_other {xs ys : List Int} (hx : ∀ z ∈ xs, Fits8 z) (hy : ∀ z ∈ ys, Fits8 z) (h : xs ≠ ys) : ((strOfNums xs).toList == (strOfNums ys).toList) = false := by
  rw [beq_eq_false_iff_ne]
  intro e
  rw [Lib.strOfNums_toList, Lib.strOfNums_toList] at e
  refine str_ne hx hy h ?_
  have e1 : (strOfNums xs).data.toList = (strOfNums ys).data.toList := e
  have e2 : (strOfNums xs).data = (strOfNums ys).data := Array.toList_inj.1 e1
  exact congrArg ByteArray.mk e2
/-- Are lists of bytes alike? -/
theorem equal_of (a : Option Addr) (n c : Nat) (xs : List Int) (b : Option Addr) (m d : Nat) (ys : List Int) (w : World) (hx : BIn w a n xs) (hy : BIn w b m ys) :
    Calls Try.prog 29 #[.slice a n c, .slice b m d] w fun e w' => e = .returned (.bool (decide (xs = ys))) ∧ w' = w := by
  have h1 := str_of w a n c xs hx
  have h2 := str_of w b m d ys hy
  by_cases h : xs = ys
  · subst h
    simp only [decide_true]
    go_enter Try.func29, Try.ntmps29
    go_wp2
    go_ret
    exact ⟨rfl, rfl⟩
  · have h3 := str_other hx.2.2.1 hy.2.2.1 h
    rw [decide_eq_false h]
    clear h hx hy
    go_enter Try.func29, Try.ntmps29
    go_wp2
    go_ret
    exact ⟨rfl, rfl⟩
def pwR (k : Nat) : Int := 64 * 2 ^ k
theorem pwR_at : ∀ k : Fin 7, PowR[k.val]? = some (pwR k.val) ∧ 64 ≤ pwR k.val ∧ pwR k.val ≤ 4096 ∧ pwR (k.val + 1) = 2 * pwR k.val := by decide
theorem pwR_mem {b : Int} : b ∈ PowR ↔ ∃ k, k < 7 ∧ b = pwR k := by
  constructor
  · intro h
    obtain ⟨k, hk⟩ := List.getElem?_of_mem h
    have hl : k < 7 := (List.getElem?_eq_some_iff.1 hk).1
    rw [(pwR_at ⟨k, hl⟩).1] at hk
    exact ⟨k, hl, by simpa using hk.symm⟩
  · rintro ⟨k, hk, rfl⟩
    exact List.mem_of_getElem? (pwR_at ⟨k, hk⟩).1
set_option maxHeartbeats 1000000 in
theorem dRoom_of (b : Int) (w : World) : Calls Try.prog 14 #[.int .i64 b] w fun e w' => e = .returned (.int .i64 (roomI b)) ∧ w' = w := by
  obtain ⟨R, hR⟩ : ∃ R, R = roomI b := ⟨_, rfl⟩
  rw [← hR]
  have HR : Hid (R = roomI b) := hR
  clear hR
  go_enter Try.func14, Try.ntmps14
  go_wp2
  go_loopw [3] (fun x wr => ∃ k : Nat, x = .int .i64 (pwR k) ∧ k ≤ 7 ∧ wr = w ∧ ∀ j, j < k → b ≠ pwR j) (fun x _ => (4097 - intOf x).toNat)
  case atStart => exact ⟨0, rfl, by omega, rfl, by simp⟩
  case round =>
    obtain ⟨k, rfl, hk, rfl, hno⟩ := hrel
    rcases Nat.lt_or_ge k 7 with hlt | hge
    · obtain ⟨_, p1, p2, p3⟩ := pwR_at ⟨k, hlt⟩
      dsimp only at p1 p2 p3
      obtain ⟨P, hP⟩ : ∃ P, P = pwR k := ⟨_, rfl⟩
      have HP : Hid (P = pwR k ∧ pwR (k + 1) = 2 * pwR k ∧ ∀ j, j < k → b ≠ pwR j) := ⟨hP, p3, hno⟩
      rw [← hP] at p1 p2 ⊢
      have hw : IntKind.i64.wrap (2 * P) = 2 * P := by rw [IntKind.wrap_i64]; omega
      clear hP p3 hno
      by_cases hb : P = b
      · have hf : R = (b - 19) / 19 := by rw [HR.out]; unfold roomI; rw [if_pos (pwR_mem.2 ⟨k, hlt, by rw [← HP.out.1, hb]⟩)]
        have hw2 : IntKind.i64.wrap (b - 19) = b - 19 := by rw [IntKind.wrap_i64]; omega
        clear HR HP hw
        subst hb
        subst hf
        go_wp2
        go_ret
        exact ⟨rfl, rfl⟩
      · have hb' : (P == b) = false := by simp [hb]
        have HN : Hid (P ≠ b) := hb
        clear hb
        go_wp2
        go_roundw
        case rel =>
          refine ⟨k + 1, by rw [HP.out.2.1, ← HP.out.1], by omega, by first | rfl | trivial, fun j hj => ?_⟩
          rcases Nat.lt_or_ge j k with h | h
          · exact HP.out.2.2 j h
          · obtain rfl : j = k := by omega
            exact fun e => HN.out (by rw [HP.out.1, e])
        case measure => simp [intOf]; omega
    · obtain rfl : k = 7 := by omega
      have hf : R = 0 := by
        rw [HR.out]
        exact room_none (fun h => by obtain ⟨j, hj, e⟩ := pwR_mem.1 h; exact hno j hj e)
      clear HR hno
      subst hf
      have h7 : pwR 7 = 8192 := by decide
      rw [h7]
      go_wp2
      go_ret
      exact ⟨rfl, rfl⟩
set_option maxHeartbeats 1000000 in
theorem dEnds_of (a : Option Addr) (n c : Nat) (zs : List Int) (w : World) (h : BIn w a n zs) : Calls Try.prog 22 #[.slice a n c] w fun e w' => e = .returned (.int .i64 (endsN zs : Nat)) ∧ w' = w := by
  obtain ⟨E, hE⟩ : ∃ E, E = endsN zs := ⟨_, rfl⟩
  have hat := ends_at zs
  rw [← hE] at hat ⊢
  have hm := h.2.1
  unfold maxLen at hm
  have H : Hid (BIn w a n zs ∧ EndsAt zs E) := ⟨h, hat⟩
  clear h hat hE
  go_enter Try.func22, Try.ntmps22
  go_wp2
  go_loopw [3, 4] (fun y x wr => ∃ i m : Nat, x = .int .i64 i ∧ y = .int .i64 m ∧ i ≤ n ∧ wr = w ∧ m ≤ i ∧ (∀ j, m ≤ j → j < i → zs.getD j 0 = 0) ∧ (m = 0 ∨ zs.getD (m - 1) 0 ≠ 0)) (fun _ x _ => n - (intOf x).toNat)
  case atStart => exact ⟨0, 0, rfl, rfl, Nat.zero_le _, rfl, Nat.le_refl _, by intro j _ h; omega, .inl rfl⟩
  case round =>
    obtain ⟨i, m, rfl, rfl, hi, rfl, hmi, h0, h1⟩ := hrel
    have HI : Hid ((∀ j, m ≤ j → j < i → zs.getD j 0 = 0) ∧ (m = 0 ∨ zs.getD (m - 1) 0 ≠ 0)) := ⟨h0, h1⟩
    clear h0 h1
    rcases Nat.lt_or_ge i n with hlt | hge
    · obtain ⟨b, off, rfl, hc⟩ := H.out.1.2.2.2.resolve_left (by omega)
      have hcj := hc i (by omega)
      obtain ⟨z, hz⟩ : ∃ z, z = zs.getD i 0 := ⟨_, rfl⟩
      rw [← hz] at hcj
      have HZ : Hid (z = zs.getD i 0) := hz
      clear hc hz
      have hi' : (i : Int) < n := by omega
      by_cases hz0 : z = 0
      · subst hz0
        go_wp2
        go_roundw
        case rel =>
          refine ⟨i + 1, m, by go_num, rfl, by omega, by first | rfl | trivial, by omega, fun j h2 h3 => ?_, HI.out.2⟩
          rcases Nat.lt_or_ge j i with h | h
          · exact HI.out.1 j h2 h
          · obtain rfl : j = i := by omega
            exact HZ.out.symm
        case measure => simp [intOf]; omega
      · have hz' : (z != 0) = true := by simp [hz0]
        have HN : Hid (z ≠ 0) := hz0
        clear hz0
        go_wp2
        go_roundw
        case rel => exact ⟨i + 1, i + 1, by go_num, by go_num, by omega, by first | rfl | trivial, by omega, by intro j h2 h3; omega, .inr (by simp only [Nat.add_sub_cancel]; rw [← HZ.out]; exact HN.out)⟩
        case measure => simp [intOf]; omega
    · obtain rfl : i = n := by omega
      have HE : Hid (m = E) := ends_only ⟨by rw [H.out.1.1]; exact hmi, fun j hj => by
        rcases Nat.lt_or_ge j i with h | h
        · exact HI.out.1 j hj h
        · simp [List.getD, List.getElem?_eq_none (by rw [H.out.1.1]; exact h : zs.length ≤ j)], HI.out.2⟩ H.out.2
      have he := HE.out
      clear HE
      subst he
      go_wp2
      go_ret
      exact ⟨rfl, rfl⟩
end Go.Proofs.Ytggeadjebkhomaa
