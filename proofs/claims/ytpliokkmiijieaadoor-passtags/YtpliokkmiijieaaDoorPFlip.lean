/- A text in which one sign of the tag is another one: it says the same token, and has another tag. -/
import Derived.Test.YtpliokkmiijieaaDoorPKnown
import Derived.Test.YtpliokkmiijieaaDoorSpRefRead
namespace Go.Proofs.YtpliokkmiijieaaDoor
open Go.RowKit
set_option linter.unusedVariables false
set_option maxRecDepth 4000

def flipV (B : List Int) (A : Nat) (v : Int) : List Int := (fives B).set A v
def flipS (B : List Int) (A : Nat) (v : Int) : List Int := (flipV B A v).map signI
theorem flipV_fit {B : List Int} {A : Nat} {v : Int} (h0 : 0 ≤ v) (h1 : v < 32) : Fit 5 (flipV B A v) := by
  intro z hz
  rcases List.mem_or_eq_of_mem_set hz with hz | hz
  · exact fives_fit B z hz
  · subst hz; exact ⟨h0, h1⟩
theorem flipV_length (B : List Int) (A : Nat) (v : Int) : (flipV B A v).length = scN B.length := by simp [flipV, fives_length]
theorem flip_vals {B : List Int} {A : Nat} {v : Int} (h0 : 0 ≤ v) (h1 : v < 32) : (flipS B A v).map valI = flipV B A v := by
  unfold flipS
  rw [List.map_map]
  have : ∀ z ∈ flipV B A v, (valI ∘ signI) z = id z := fun z hz => by
    have := flipV_fit (B := B) (A := A) h0 h1 z hz
    exact val_sign this.1 (by have := this.2; omega)
  rw [List.map_congr_left this, List.map_id]
theorem flip_signs {B : List Int} {A : Nat} {v : Int} (h0 : 0 ≤ v) (h1 : v < 32) : Signs (flipS B A v) := by
  intro c hc
  obtain ⟨z, hz, rfl⟩ := List.mem_map.1 hc
  have := flipV_fit (B := B) (A := A) h0 h1 z hz
  exact sign_is this.1 (by have := this.2; omega)
theorem flip_fits {B : List Int} {A : Nat} {v : Int} (h0 : 0 ≤ v) (h1 : v < 32) : ∀ z ∈ flipS B A v, Fits8 z := by
  intro z hz
  have := flip_signs h0 h1 z hz
  unfold IsSign at this
  unfold Fits8
  omega
theorem flip_reads {B : List Int} {A : Nat} {v : Int} (hB : B.length = 50) (h0 : 0 ≤ v) (h1 : v < 32) :
    Reads (flipS B A v) ∧ (readI (flipS B A v)).length = 50 ∧ ∀ k, k < 400 → bitOf 8 (readI (flipS B A v)) k = bitOf 5 (flipV B A v) k := by
  have hf := flipV_fit (B := B) (A := A) h0 h1
  have ok := rdN_all hf
  have hl : (flipV B A v).length = 80 := by rw [flipV_length, hB]; rfl
  rw [hl] at ok
  have hr : rdI (flipS B A v) = rdN (flipV B A v) := by unfold rdI; rw [flip_vals h0 h1]
  have e1 := ok.1
  have e2 := ok.2.1
  have hb : (rdN (flipV B A v)).bits = 0 := by omega
  have hL : (rdN (flipV B A v)).out.length = 50 := by omega
  have hh : (rdN (flipV B A v)).held = 0 := by rw [ok.2.2.1, hb]; rfl
  have rd : Reads (flipS B A v) := ⟨flip_signs h0 h1, by rw [hr]; exact ⟨by rw [hb]; omega, hh⟩⟩
  have e : readI (flipS B A v) = (rdN (flipV B A v)).out := by unfold readI; rw [if_pos rd, hr]
  rw [e]
  exact ⟨rd, hL, fun k hk => ok.bit (bitOf_bit _ _) k (by rw [hL]; omega)⟩
theorem flip_front {B : List Int} {A : Nat} {v : Int} {k : Nat} (hk : k < 5 * A) : bitOf 5 (flipV B A v) k = bitOf 5 (fives B) k := by
  unfold bitOf flipV
  have : k / 5 < A := by omega
  simp only [List.getD]
  rw [List.getElem?_set_ne (by omega)]
theorem getD_of_eq {l m : List Int} (h : ∀ i, l.getD i 0 = m.getD i 0) (hl : l.length = m.length) : l = m := by
  apply List.ext_getElem hl
  intro i h1 h2
  have := h i
  simpa [List.getD, h1, h2] using this
/-- The bytes ahead of the changed sign are the same. -/
theorem flip_body {B : List Int} {A : Nat} {v : Int} (hB : B.length = 50) (hf : ∀ z ∈ B, Fits8 z) (h0 : 0 ≤ v) (h1 : v < 32) (hA : 30 ≤ A) : (readI (flipS B A v)).take 18 = B.take 18 := by
  obtain ⟨_, r2, r3⟩ := flip_reads (A := A) hB h0 h1
  have f1 : Fit 8 ((readI (flipS B A v)).take 18) := fun z hz => readI_fit _ z (List.mem_of_mem_take hz)
  have f2 : Fit 8 (B.take 18) := fun z hz => hf z (List.mem_of_mem_take hz)
  refine same_bits (by decide) f1 f2 (by simp [r2, hB]) ?_
  intro k hk
  have hk' : k < 144 := by simp [r2] at hk; omega
  have t : ∀ (l : List Int), bitOf 8 (l.take 18) k = bitOf 8 l k := fun l => by
    unfold bitOf
    have : k / 8 < 18 := by omega
    simp [List.getD, this]
  rw [t, t, r3 k (by omega), flip_front (by omega), fives_bit]
theorem flip_other {B : List Int} {A : Nat} {v : Int} (hB : B.length = 50) (hf : ∀ z ∈ B, Fits8 z) (h0 : 0 ≤ v) (h1 : v < 32) (hA : A < 80) (hne : (fives B).getD A 0 ≠ v) : readI (flipS B A v) ≠ B := by
  intro e
  obtain ⟨_, r2, r3⟩ := flip_reads (A := A) hB h0 h1
  have hl : (flipV B A v).length = 80 := by rw [flipV_length, hB]; rfl
  have hl2 : (fives B).length = 80 := by rw [fives_length, hB]; rfl
  have : flipV B A v = fives B := by
    refine same_bits (by decide) (flipV_fit h0 h1) (fives_fit B) (by rw [hl, hl2]) ?_
    intro k hk
    rw [hl] at hk
    rw [← r3 k (by omega), e, fives_bit]
  apply hne
  rw [← this]
  unfold flipV
  simp [List.getD, hl2, hA]
/-- Check of a text in which one sign of the tag is another one. -/
theorem flip_check {key : List Int} {t : Tok} {T : Ten} {A : Nat} {v : Int} (ht : t.Fits) (hT : T.key = key ∧ T.id = t.tenant) (h0 : 0 ≤ v) (h1 : v < 32) (hA : 30 ≤ A) (hA2 : A < 80) (hne : (fives (issueB key t)).getD A 0 ≠ v) :
    checkI [T] (flipS (issueB key t) A v) = (tok0, 52) := by
  have hB := issueB_length key t
  have hf := issueB_fits key t
  obtain ⟨r1, r2, r3⟩ := flip_reads (A := A) hB h0 h1
  have hb : lookB (flipS (issueB key t) A v) = bodyI t := by
    unfold lookB
    rw [flip_body hB hf h0 h1 hA, issueB, List.take_left' (bodyI_length t)]
  have hg : ∀ i, i < 18 → (readI (flipS (issueB key t) A v)).getD i 0 = (bodyI t).getD i 0 := fun i hi => by
    rw [← hb]; unfold lookB; simp [List.getD, hi]
  obtain ⟨g1, g2, g3, g4⟩ := issue_good key ht
  have hbd := good_body g1
  have e0 : (bodyI t).getD 0 0 = 1 := by simp [bodyI]
  have e17 : (bodyI t).getD 17 0 ≤ 1 := by
    have h := g1.2.2.2
    have : (readI (issueI key t)).getD 17 0 = (lookB (issueI key t)).getD 17 0 := by unfold lookB; simp [List.getD]
    rw [this, g2] at h
    exact h
  have gd : Good (flipS (issueB key t) A v) := ⟨r1, r2, by rw [hg 0 (by omega)]; exact e0, by rw [hg 17 (by omega)]; exact e17⟩
  have hl : lookI (flipS (issueB key t) A v) = t := by unfold lookI; rw [if_pos gd, hb, tok_body ht]
  unfold checkI
  rw [if_pos gd, hl]
  have hfd : findT [T] t.tenant = some T := by unfold findT; simp [hT.2]
  rw [hfd, check_is, hb, if_pos]
  rw [hT.1]
  intro e
  apply flip_other hB hf h0 h1 hA2 hne
  have : readI (flipS (issueB key t) A v) = lookB (flipS (issueB key t) A v) ++ lookG (flipS (issueB key t) A v) := (List.take_append_drop 18 _).symm
  rw [this, hb, ← e]
  rfl
theorem flip_text (B : List Int) {A : Nat} (v : Int) (hA : A < scN B.length) : flipS B A v = (wrI B).take A ++ [signI v] ++ (wrI B).drop (A + 1) := by
  unfold flipS flipV wrI
  rw [List.set_eq_take_append_cons_drop, if_pos (by rw [fives_length]; exact hA)]
  simp
theorem xor_small : ∀ (a : Fin 32) (j : Fin 5), a.1 ^^^ 2 ^ j.1 < 32 ∧ a.1 ^^^ 2 ^ j.1 ≠ a.1 := by decide
theorem sign_inj {a b : Nat} (ha : a < 32) (hb : b < 32) (h : signI (a : Int) = signI (b : Int)) : a = b := by
  have := congrArg valI h
  rw [val_sign (by omega) (by omega), val_sign (by omega) (by omega)] at this
  omega
theorem str_index {s : ByteArray} {cs : List Int} (hs : s = strOfNums cs) (hf : ∀ z ∈ cs, Fits8 z) {A : Nat} (hA : A < cs.length) {c : Int} (hc : cs.getD A 0 = c) (w : World) : (Instr.index 9 (.string s) (.int .i64 (A : Int))).run Tryd.prog w = .ok (.int .u8 c) w := by
  subst hs
  have hsz : (strOfNums cs).size = cs.length := strOfNums_size cs
  have h2 : (0 : Int) ≤ A ∧ (A : Int) < (strOfNums cs).size := by rw [hsz]; omega
  rw [run_index_string w 9 (strOfNums cs) .i64 A Tryd.underlying9, dif_pos h2]
  have := str_at hf A (by rw [hsz]; exact hA)
  rw [hc] at this
  rw [← this]
  rfl
theorem str_part (xs : List Int) (n m : Nat) : (strOfNums xs).extract n m = strOfNums ((xs.drop n).take (m - n)) := by
  unfold strOfNums
  rw [ByteArray.extract_mk]
  simp
theorem map_lower {lo lo' : Nat} {w : World} {b n : Nat} {ts : List Ten} (h : MapIn lo w b n ts) (hl : lo' ≤ lo) : MapIn lo' w b n ts := by
  obtain ⟨D, hown, hall⟩ := h
  refine ⟨D, hown, fun id hid => ⟨(hall id hid).1, fun t ht => ?_⟩⟩
  obtain ⟨h1, L, h2, h3⟩ := (hall id hid).2 t ht
  exact ⟨h1, L, h2, h3.lower hl⟩
theorem TabIn.lower {lo lo' : Nat} {w : World} {p : Value} {ts : List Ten} (h : TabIn lo w p ts) (hl : lo' ≤ lo) : TabIn lo' w p ts := by
  obtain ⟨g, b, n, hp, h1, h2, h3, h4⟩ := h
  exact ⟨g, b, n, hp, Nat.le_trans hl h1, Nat.le_trans hl h2, h3, map_lower h4 hl⟩
/-- New of one tenant with a key. -/
theorem new_one (a : Option Addr) (n c : Nat) (key : List Int) (id size : Int) (w : World) (hb : BIn w a n key) (hc : n ≤ c) (hnil : a = none → n = 0 ∧ c = 0) (hn0 : n ≠ 0) (hn : n ≤ 1000) (hid : Fits32 id) (s0 : 0 ≤ size) (s1 : size < 18446744073709551616) :
    Calls Tryd.prog 16 #[.slice (some ⟨w.heap.size, 0, none⟩) 1 1] (w.alloc (.cells #[.int .u32 id, .slice a n c, .int .u64 0, .int .u64 size, .slice none 0 0] 49)) fun e w' => ∃ p, e = .returned (.tuple #[p, .int .u16 0]) ∧ TabIn 0 w' p [⟨id, key, 0, size, []⟩] ∧ Below w.heap.size w w' := by
  have hts : TsIn 0 (w.alloc (.cells #[.int .u32 id, .slice a n c, .int .u64 0, .int .u64 size, .slice none 0 0] 49)) (some ⟨w.heap.size, 0, none⟩) 1 [⟨id, key, 0, size, []⟩] :=
    one_ts (L := tenL ⟨id, key, 0, size, []⟩ a n c none 0 0) rfl (key_ten (k := 0) hb hc hnil ⟨hid, by dsimp only; omega, s0, s1⟩) (Nat.zero_le _)
  refine (passNew_of 0 (some ⟨w.heap.size, 0, none⟩) 1 1 _ _ hts (by omega) (by intro t ht; simp only [List.mem_cons, List.not_mem_nil, or_false] at ht; subst ht; exact ⟨by dsimp only; rw [hb.1]; exact hn, by simp⟩)).mono ?_
  rintro e w' ⟨b1, (⟨-, p, rfl, hT⟩ | ⟨hbad, -⟩)⟩
  · exact ⟨p, rfl, hT.lower (Nat.zero_le _), ((Below.refl _ _).alloc (Nat.le_refl _) _).trans (b1.mono (by simp))⟩
  · exfalso
    apply hbad
    unfold newE
    rw [if_neg (by simp), if_pos]
    refine ⟨fun t ht => ?_, by simp⟩
    simp only [List.mem_cons, List.not_mem_nil, or_false] at ht
    subst ht
    intro e
    dsimp only at e
    have := hb.1
    rw [e] at this
    simp at this
    omega
end Go.Proofs.YtpliokkmiijieaaDoor
