/- Plain mathematics of the tag; laws for a whole array as a slice. -/
import Derived.Test.YtpliokkmiijieaaDoorSame
namespace Go.Proofs.YtpliokkmiijieaaDoor
open Go.RowKit
set_option linter.unusedVariables false
set_option maxRecDepth 4000

/-- A block out of at most 64 bytes: bytes 00 behind. -/
def fillI (zs : List Int) : List Int := splice (List.replicate 64 0) 0 zs
/-- What a key counts as: itself, or its digest. -/
def shortI (key : List Int) : List Int := if 64 < key.length then sumI (takeI st0 key) else key
def keyI (key : List Int) : List Int := fillI (shortI key)
def xorI (p : Int) (B : List Int) : List Int := B.map fun z => bits .xor .u8 z p
def innerI (key bs : List Int) : List Int := sumI (takeI (takeI st0 (xorI 54 (keyI key))) bs)
def ofI (key bs : List Int) : List Int := sumI (takeI (takeI st0 (xorI 92 (keyI key))) (innerI key bs))
theorem ofI_length (key bs : List Int) : (ofI key bs).length = 32 := sumI_length _

theorem digN_fits (S : List Int) (k : Nat) : ∀ z ∈ digN S k, Fits8 z := by
  induction k with
  | zero => intro z hz; rw [digN, List.mem_replicate] at hz; rw [hz.2]; unfold Fits8; omega
  | succ k ih => exact splice_fits ih (bigI_fits _ _)
theorem sumI_fits (s : St) : ∀ z ∈ sumI s, Fits8 z := digN_fits _ _
theorem shortI_length (key : List Int) : (shortI key).length ≤ 64 := by
  unfold shortI; split
  · rw [sumI_length]; omega
  · omega
theorem shortI_fits {key : List Int} (h : ∀ z ∈ key, Fits8 z) : ∀ z ∈ shortI key, Fits8 z := by
  unfold shortI; split
  · exact sumI_fits _
  · exact h
theorem fillI_length {zs : List Int} (h : zs.length ≤ 64) : (fillI zs).length = 64 := by
  unfold fillI; rw [length_splice _ _ _ (by simp; omega)]; simp
theorem fillI_fits {zs : List Int} (h : ∀ z ∈ zs, Fits8 z) : ∀ z ∈ fillI zs, Fits8 z :=
  splice_fits (fun z hz => by rw [List.mem_replicate] at hz; rw [hz.2]; unfold Fits8; omega) h
theorem keyI_length (key : List Int) : (keyI key).length = 64 := fillI_length (shortI_length key)
theorem keyI_fits {key : List Int} (h : ∀ z ∈ key, Fits8 z) : ∀ z ∈ keyI key, Fits8 z := fillI_fits (shortI_fits h)
theorem xor8_fits {a b : Int} (ha : Fits8 a) (hb : Fits8 b) : Fits8 (bits .xor .u8 a b) := by
  unfold Fits8 at *
  rw [u8_xor a b ha.1 ha.2 hb.1 hb.2]
  have h1 : a.toNat < 2 ^ 8 := by omega
  have h2 : b.toNat < 2 ^ 8 := by omega
  have := Nat.xor_lt_two_pow h1 h2
  exact ⟨by omega, by omega⟩
theorem xorI_length (p : Int) (B : List Int) : (xorI p B).length = B.length := by simp [xorI]
theorem xorI_fits {p : Int} {B : List Int} (hp : Fits8 p) (h : ∀ z ∈ B, Fits8 z) : ∀ z ∈ xorI p B, Fits8 z := by
  intro z hz
  simp only [xorI, List.mem_map] at hz
  obtain ⟨y, hy, rfl⟩ := hz
  exact xor8_fits (h y hy) hp

theorem run_whole {P : Program} {t e : TypeId} {N : Nat} (hu : P.underlying t = some (.array N e)) (he : (P.info? e).map (·.size) = some 1) (w : World) (b o : Nat) (h3 : 0 < N) :
    (Instr.sliceAt t (.pointer (some ⟨b, o, none⟩)) none none none).run P w = .ok (.slice (some ⟨b, o, none⟩) N N) w := by
  have e1 : P.arrayLen t = N := by simp [Program.arrayLen, hu]
  have e2 : P.elem t = e := by simp [Program.elem, hu]
  have hu' : P.underlying t = some (.array (P.arrayLen t) (P.elem t)) := by rw [e1, e2]; exact hu
  rw [run_sliceAt_array_all w t _ hu', e1, e2, size_of_info he]
  have a3 : ¬ N = 0 := by omega
  simp [slicedAt, a3, Addr.add_mid]

/-- A block of bytes, as a list that lies in the world. -/
theorem Blk.bin {w : World} {g : Nat} {B : List Int} {t : TypeId} (h : Blk w g (u8s B) t) (hf : ∀ z ∈ B, Fits8 z) (hm : B.length ≤ maxLen) : BIn w (some ⟨g, 0, none⟩) B.length B :=
  ⟨rfl, hm, hf, .inr ⟨g, 0, rfl, fun i hi => by rw [Nat.zero_add]; exact byteAt h i hi⟩⟩
theorem Blk.lin {w : World} {g k n : Nat} {B : List Int} {t : TypeId} (h : Blk w g (u8s B) t) (hf : ∀ z ∈ B, Fits8 z) (hn : B.length = n) (hm : n ≤ maxLen) (hne : g ≠ k) : LIn w k (some ⟨g, 0, none⟩) n B := by
  subst hn
  exact ⟨rfl, hm, hf, .inr ⟨g, 0, rfl, hne, fun i hi => by rw [Nat.zero_add]; exact byteAt h i hi⟩⟩
theorem u8s_splice (L zs : List Int) (o : Nat) : splice (u8s L) o (u8s zs) = u8s (splice L o zs) := by simp [splice, u8s]
theorem Tryd.zero_a64 : (Tryd.prog.info? 80).map (fun i => (i.zero, i.size)) = some (some (.agg (u8s (List.replicate 64 0)).toArray), 64) := by kernel_rfl
theorem bin_len {w : World} {a : Option Addr} {n : Nat} {zs : List Int} (h : BIn w a n zs) : zs.length = n := h.1
end Go.Proofs.YtpliokkmiijieaaDoor
