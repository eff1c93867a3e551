/- Requests as lists; rows of them in memory; slices of a row in a struct; copying within one. -/
import Derived.Test.YthmhphjblglcoaaZMem
import Derived.Lib.SmallJoins
namespace Go.Proofs.Ythmhphjblglcoaa
open Go.RowKit
set_option linter.unusedVariables false
set_option maxRecDepth 4000
structure Rq where
  fl : Int
  kd : Int
  ck : Int
  ofs : Int
  ln : Int
def rq0 : Rq := ⟨0, 0, 0, 0, 0⟩
def Fits16 (z : Int) : Prop := 0 ≤ z ∧ z < 65536
def Fits32 (z : Int) : Prop := 0 ≤ z ∧ z < 4294967296
def FitsU (z : Int) : Prop := 0 ≤ z ∧ z < 18446744073709551616
def Rq.Fits (r : Rq) : Prop := Fits16 r.fl ∧ Fits16 r.kd ∧ FitsU r.ck ∧ FitsU r.ofs ∧ Fits32 r.ln
theorem rq0_fits : rq0.Fits := by simp [Rq.Fits, rq0, Fits16, Fits32, FitsU]
abbrev Pq := Rq × List Int
def rqL (p : Rq) (v : Value) : List Value := [.int .u16 p.fl, .int .u16 p.kd, .int .u64 p.ck, .int .u64 p.ofs, .int .u32 p.ln, v]
theorem Try.info_request : (Try.prog.info? 34).map (·.size) = some 6 := by kernel_rfl
theorem Try.zero_request : (Try.prog.info? 34).map (fun i => (i.zero, i.size, i.bytes)) = some (some (.agg #[.int .u16 0, .int .u16 0, .int .u64 0, .int .u64 0, .int .u32 0, .slice none 0 0]), 6, 56) := by kernel_rfl
theorem rq_size (r : Rq) (v : Value) : (Try.prog.info? 34).map (·.size) = some (rqL r v).toArray.size := Try.info_request
theorem rqL_one (p : Rq) (a : Option Addr) (n c : Nat) : ∀ v ∈ rqL p (.slice a n c), v.oneCell' = true := by
  intro v hv; simp only [rqL, List.mem_cons, List.not_mem_nil, or_false] at hv; rcases hv with rfl | rfl | rfl | rfl | rfl | rfl <;> rfl
theorem rq_all (r : Rq) (a : Option Addr) (n c : Nat) : (rqL r (.slice a n c)).toArray.all (·.oneCell') = true := all_oneCell_toArray (rqL_one r a n c)
/-- Data that can be read: what comes in. -/
def DIn (w : World) (A : Option Addr) (k C : Nat) (D : List Int) : Prop := BIn w A k D ∧ k ≤ C ∧ (A = none → k = 0 ∧ C = 0)
theorem DIn.below {w w' : World} {A : Option Addr} {k C : Nat} {D : List Int} (h : DIn w A k C D) (hb : Below w.heap.size w w') : DIn w' A k C D := ⟨h.1.below hb, h.2⟩
theorem DIn.alloc {w : World} {A : Option Addr} {k C : Nat} {D : List Int} (h : DIn w A k C D) (o : Obj) : DIn (w.alloc o) A k C D := ⟨h.1.alloc o, h.2⟩
/-- The data of one, of the call's own, in X. -/
def QD (X : Nat → Prop) (w : World) (p : Pq) (v : Value) : Prop := BkAt X w v p.2 ∧ p.2.length ≤ 100 ∧ p.1.Fits
theorem QD.form {X : Nat → Prop} {w : World} {p : Pq} {v : Value} (h : QD X w p v) : ∃ A C, v = .slice A p.2.length C ∧ BIn w A p.2.length p.2 ∧ (A = none → p.2.length = 0 ∧ C = 0) := by
  obtain ⟨a, c, rfl⟩ := own_slice h.1.1
  exact ⟨a, c, rfl, h.1.bin.1, h.1.bin.2.1⟩
def QsD (X : Nat → Prop) (w : World) (l : List Pq) (vs : List Value) : Prop := vs.length = l.length ∧ ∀ (i : Nat) (p : Pq) (v : Value), l[i]? = some p → vs[i]? = some v → QD X w p v
def rqC : List Pq → List Value → List Value
  | p :: l, v :: vs => rqL p.1 v ++ rqC l vs
  | _, _ => []
theorem rqC_length : ∀ (l : List Pq) (vs : List Value), vs.length = l.length → (rqC l vs).length = l.length * 6
  | [], [], _ => rfl
  | [], _ :: _, h => by simp at h
  | _ :: _, [], h => by simp at h
  | p :: l, v :: vs, h => by
    have := rqC_length l vs (by simpa using h)
    simp [rqC, rqL, this]; omega
theorem rqC_snoc : ∀ (l : List Pq) (vs : List Value) (p : Pq) (v : Value), vs.length = l.length → rqC l vs ++ rqL p.1 v = rqC (l ++ [p]) (vs ++ [v])
  | [], [], p, v, _ => by simp [rqC]
  | [], _ :: _, _, _, h => by simp at h
  | _ :: _, [], _, _, h => by simp at h
  | q :: l, u :: vs, p, v, h => by
    have := rqC_snoc l vs p v (by simpa using h)
    simp [rqC, ← this]
theorem rqC_get : ∀ (l : List Pq) (vs : List Value) (i : Nat) (p : Pq) (v : Value) (j : Nat), l[i]? = some p → vs[i]? = some v → j < 6 → (rqC l vs)[i * 6 + j]? = (rqL p.1 v)[j]?
  | [], _, i, p, v, j, h, _, _ => by simp at h
  | _ :: _, [], i, p, v, j, _, h, _ => by simp at h
  | q :: l, u :: vs, 0, p, v, j, h1, h2, hj => by
    simp at h1 h2; subst h1; subst h2
    simp only [rqC, Nat.zero_mul, Nat.zero_add]
    rw [List.getElem?_append_left (by simp [rqL]; omega)]
  | q :: l, u :: vs, i + 1, p, v, j, h1, h2, hj => by
    have := rqC_get l vs i p v j (by simpa using h1) (by simpa using h2) hj
    simp only [rqC]
    rw [List.getElem?_append_right (by simp [rqL]; omega)]
    rw [show (i + 1) * 6 + j - (rqL q.1 u).length = i * 6 + j by simp [rqL]; omega]
    exact this
theorem rqC_app : ∀ (l m : List Pq) (vs us : List Value), vs.length = l.length → rqC l vs ++ rqC m us = rqC (l ++ m) (vs ++ us)
  | [], m, [], us, _ => by simp [rqC]
  | [], _, _ :: _, _, h => by simp at h
  | _ :: _, _, [], _, h => by simp at h
  | q :: l, m, u :: vs, us, h => by
    have := rqC_app l m vs us (by simpa using h)
    simp [rqC, ← this]
section
variable {X Y O : Nat → Prop} {w w' : World} {l m : List Pq} {vs us : List Value} {p : Pq} {v : Value}
theorem QD.out (h : QD X w p v) (ho : Out O w w') (hO : ∀ c cur, X c → w.heap[c]? = some (.cells cur 5 (0, 0)) → ¬ O c) : QD X w' p v := ⟨h.1.out ho hO, h.2⟩
theorem QD.wider (h : QD X w p v) (hY : ∀ x, X x → x < w.heap.size → Y x) : QD Y w p v := ⟨h.1.mono hY, h.2⟩
theorem QsD.out (h : QsD X w l vs) (ho : Out O w w') (hO : ∀ c cur, X c → w.heap[c]? = some (.cells cur 5 (0, 0)) → ¬ O c) : QsD X w' l vs := ⟨h.1, fun i p v h1 h2 => (h.2 i p v h1 h2).out ho hO⟩
theorem QsD.below (h : QsD X w l vs) (hb : Below w.heap.size w w') : QsD X w' l vs := h.out (below_out Non hb) (fun _ _ _ _ e => e)
theorem QsD.wider (h : QsD X w l vs) (hY : ∀ x, X x → x < w.heap.size → Y x) : QsD Y w l vs := ⟨h.1, fun i p v h1 h2 => (h.2 i p v h1 h2).wider hY⟩
theorem QsD.nil : QsD X w [] [] := ⟨rfl, fun i p v h => by simp at h⟩
theorem QsD.snoc (h : QsD X w l vs) (hd : QD X w p v) : QsD X w (l ++ [p]) (vs ++ [v]) := by
  refine ⟨by simp [h.1], fun i q u h1 h2 => ?_⟩
  by_cases hlt : i < l.length
  · rw [List.getElem?_append_left hlt] at h1
    rw [List.getElem?_append_left (by rw [h.1]; exact hlt)] at h2
    exact h.2 i q u h1 h2
  · have hi : i = l.length := by have := (List.getElem?_eq_some_iff.1 h1).1; simp at this; omega
    subst hi
    simp at h1
    rw [← h.1] at h2
    simp at h2
    subst h1; subst h2
    exact hd
theorem QsD.erase (h : QsD X w l vs) (k : Nat) : QsD X w (l.eraseIdx k) (vs.eraseIdx k) := by
  refine ⟨by simp [List.length_eraseIdx, h.1], fun i q u h1 h2 => ?_⟩
  rw [List.getElem?_eraseIdx] at h1 h2
  split at h1 <;> rename_i hlt
  · rw [if_pos hlt] at h2; exact h.2 i q u h1 h2
  · rw [if_neg hlt] at h2; exact h.2 _ q u h1 h2
end
/-- A slice of an array of requests that stands in a block. -/
theorem run_part6 {P : Program} {t e : TypeId} {N s : Nat} (hu : P.underlying t = some (.array N e)) (he : (P.info? e).map (·.size) = some s) (w : World) (b o : Nat) (kl kh : IntKind) (l h : Int) (L H : Nat)
    (hl : l = L) (hh : h = H) (h1 : L ≤ H) (h2 : H ≤ N) :
    (Instr.sliceAt t (.pointer (some ⟨b, o, none⟩)) (some (.int kl l)) (some (.int kh h)) none).run P w = .ok (.slice (some ⟨b, if N = L then o else o + L * s, none⟩) (H - L) (N - L)) w := by
  have e1 : P.arrayLen t = N := by simp [Program.arrayLen, hu]
  have e2 : P.elem t = e := by simp [Program.elem, hu]
  have hu' : P.underlying t = some (.array (P.arrayLen t) (P.elem t)) := by rw [e1, e2]; exact hu
  rw [run_sliceAt_array_lh w t _ hu' kl kh l h (by omega) (by omega) (by omega), e1, e2, size_of_info he]
  have a1 : l.toNat = L := by omega
  have a2 : h.toNat = H := by omega
  by_cases a3 : N = L
  · simp [slicedAt, a1, a2, a3]
  · simp [slicedAt, a1, a2, a3, Addr.add_mid]
theorem run_part6_l {P : Program} {t e : TypeId} {N s : Nat} (hu : P.underlying t = some (.array N e)) (he : (P.info? e).map (·.size) = some s) (w : World) (b o : Nat) (kl : IntKind) (l : Int) (L : Nat)
    (hl : l = L) (h3 : L < N) :
    (Instr.sliceAt t (.pointer (some ⟨b, o, none⟩)) (some (.int kl l)) none none).run P w = .ok (.slice (some ⟨b, o + L * s, none⟩) (N - L) (N - L)) w := by
  have e1 : P.arrayLen t = N := by simp [Program.arrayLen, hu]
  have e2 : P.elem t = e := by simp [Program.elem, hu]
  have hu' : P.underlying t = some (.array (P.arrayLen t) (P.elem t)) := by rw [e1, e2]; exact hu
  rw [run_sliceAt_array_l w t _ hu' kl l (by omega) (by omega), e1, e2, size_of_info he]
  have a1 : l.toNat = L := by omega
  have a3 : ¬ N = L := by omega
  simp [slicedAt, a1, a3, Addr.add_mid]
theorem run_part6_h {P : Program} {t e : TypeId} {N s : Nat} (hu : P.underlying t = some (.array N e)) (he : (P.info? e).map (·.size) = some s) (w : World) (b o : Nat) (kh : IntKind) (h : Int) (H : Nat)
    (hh : h = H) (h2 : H ≤ N) (h3 : 0 < N) :
    (Instr.sliceAt t (.pointer (some ⟨b, o, none⟩)) none (some (.int kh h)) none).run P w = .ok (.slice (some ⟨b, o, none⟩) H N) w := by
  have e1 : P.arrayLen t = N := by simp [Program.arrayLen, hu]
  have e2 : P.elem t = e := by simp [Program.elem, hu]
  have hu' : P.underlying t = some (.array (P.arrayLen t) (P.elem t)) := by rw [e1, e2]; exact hu
  rw [run_sliceAt_array_h w t _ hu' kh h (by omega) (by omega), e1, e2, size_of_info he]
  have a2 : h.toNat = H := by omega
  have a3 : ¬ N = 0 := by omega
  simp [slicedAt, a2, a3, Addr.add_mid]
/-- Elements of several cells, copied within memory. -/
theorem run_copy_many {P : Program} (w : World) (dT sT ty elem : TypeId) (b o dLen dCap : Nat) (a : Addr) (sLen sCap s : Nat) (cs : List Value)
    (hu : P.underlying dT = some (.slice elem)) (hs : (P.info? elem).map (·.size) = some s) (hn : cs.length = Nat.min sLen dLen * s)
    (hsrc : ∀ j v, cs[j]? = some v → w.cell? (a.add j) = some v) (hc : ∀ j, j < cs.length → (w.cell? ⟨b, o + j, none⟩).isSome = true) (hf : ∀ j, j < cs.length → w.frozen? ⟨b, o + j, none⟩ = false) (h1 : ∀ v ∈ cs, v.oneCell' = true) :
    (Builtin.copy_ #[dT, sT] ty #[.slice (some ⟨b, o, none⟩) dLen dCap, .slice (some a) sLen sCap]).run P w = .ok (goInt (Nat.min sLen dLen)) (w.setCells b o cs) := by
  have hl := run_loadCells_list (P := P) w a cs hsrc
  have hst := run_storeCells_cells (P := P) b o cs 0 w (by simpa using hc) (by simpa using hf) h1
  cases hq : P.info? elem with
  | none => simp [hq] at hs
  | some i =>
    have hi : i.size = s := by simpa [hq] using hs
    simp [Builtin.copy_, run_underlying hu, Builtin.lenOf, Builtin.firstCells, sizeOf, typeInfo, hq, hi, ← hn, hl, hst]
end Go.Proofs.Ythmhphjblglcoaa
