/- Texts of this seat, one behind the other: StTw. -/
import Derived.Test.YtjjpkjphghclpaaJ25
import Derived.Test.YtjjpkjphghclpaaJ26
/- Two stores beside each other, and a list of blocks to be put. -/
namespace Go.Proofs.Ytjjpkjphghclpaa
open Go.RowKit
set_option linter.unusedVariables false
set_option maxRecDepth 4000
theorem pslice_one (b off n c i : Nat) (hi : i + 1 ≤ c) (w : World) :
    (Instr.slice 24 (.slice (some ⟨b, off, none⟩) n c) (some (.int .i64 (i : Int))) (some (.int .i64 ((i : Int) + 1))) none).run Try.prog w = .ok (.slice (some ⟨b, off + i * 4, none⟩) 1 (c - i)) w := by
  rw [run_slice_lh (P := Try.prog) w 24 (some ⟨b, off, none⟩) n c Try.underlying24 .i64 .i64 i ((i : Int) + 1) (by omega) (by omega) (by omega), Try.four_puts w]
  simp only [Result.andThen, Int.toNat_natCast]
  unfold sliced
  have hne : ¬ c = i := by omega
  simp [hne, Addr.add_mid]
/-- The names that a store has, by what it tells. -/
theorem names_mem {zs : List Zn} {S : List Pl} (h : Plc zs S) (n : Pr) : n ∈ S.map (·.1) ↔ (memS zs S n).isSome = true := by
  constructor
  · intro hn
    obtain ⟨x, hx, rfl⟩ := List.mem_map.1 hn
    unfold memS
    rw [(getS_some h.1).2 (show (x.1, x.2) ∈ S from hx)]
    exact h.2 x hx
  · intro hn
    unfold memS at hn
    cases hg : getS S n with
    | none => rw [hg] at hn; cases hn
    | some a => exact List.mem_map.2 ⟨(n, a), (getS_some h.1).1 hg, rfl⟩
theorem names_eq {zs zs' : List Zn} {S S' : List Pl} (h : Plc zs S) (h' : Plc zs' S') (hm : memS zs S = memS zs' S') : S.map (·.1) = S'.map (·.1) :=
  eq_of_mem (f := fun x : Pr => x) (List.pairwise_map.2 h.1.up) (List.pairwise_map.2 h'.1.up) (fun n => by rw [names_mem h, names_mem h', hm])
theorem cnt_names (S : List Pl) (t : Int) : cntS S t = ((S.map (·.1)).filter (fun n => n.1 == t)).length := by
  unfold cntS
  rw [List.filter_map]
  simp [Function.comp_def]
structure Tw2 (w W : World) (s : Sh) (Da : Nat → Prop) (ka : Bs) (sa : St) (ca : Nat) (Db : Nat → Prop) (kb : Bs) (sb : St) (cb : Nat) (A : Option Addr) (n C : Nat) (l : List Pt) : Prop where
  va : StV Da W ka sa ca
  vb : StV Db W kb sb cb
  bel : Below w.heap.size w W
  sh : Blk W w.heap.size (shC s) 23
  lowa : ∀ x, StO Da ka x → w.heap.size < x
  lowb : ∀ x, StO Db kb x → w.heap.size < x
  dis : ∀ x, StO Da ka x → ¬ StO Db kb x
  pts : ∃ X : Nat → Prop, PtsIn X W A n l ∧ ∀ x, X x → ¬ StO Da ka x ∧ ¬ StO Db kb x ∧ x < W.heap.size
  cap : n ≤ C
section
variable {w W W' : World} {s : Sh} {Da Db : Nat → Prop} {ka kb : Bs} {sa sa' sb sb' : St} {ca ca' cb cb' : Nat} {A : Option Addr} {n C : Nat} {l : List Pt}
theorem Tw2.swap (h : Tw2 w W s Da ka sa ca Db kb sb cb A n C l) : Tw2 w W s Db kb sb cb Da ka sa ca A n C l := by
  obtain ⟨X, h1, h2⟩ := h.pts
  exact ⟨h.vb, h.va, h.bel, h.sh, h.lowb, h.lowa, fun x hb ha => h.dis x ha hb, ⟨X, h1, fun x hx => ⟨(h2 x hx).2.1, (h2 x hx).1, (h2 x hx).2.2⟩⟩, h.cap⟩
theorem Tw2.below (h : Tw2 w W s Da ka sa ca Db kb sb cb A n C l) (hb : Below W.heap.size W W') : Tw2 w W' s Da ka sa ca Db kb sb cb A n C l := by
  obtain ⟨X, h1, h2⟩ := h.pts
  exact ⟨h.va.under hb, h.vb.under hb, h.bel.trans (hb.mono h.bel.size), h.sh.below hb h.sh.lt, h.lowa, h.lowb, h.dis, ⟨X, h1.below hb, fun x hx => ⟨(h2 x hx).1, (h2 x hx).2.1, Nat.lt_of_lt_of_le (h2 x hx).2.2 hb.size⟩⟩, h.cap⟩
theorem Tw2.nextA (h : Tw2 w W s Da ka sa ca Db kb sb cb A n C l) (hs : Sv Da W ka sa' ca' W') : ∃ Da', Tw2 w W' s Da' ka sa' ca' Db kb sb cb A n C l := by
  obtain ⟨D', hv, hD, ho⟩ := hs
  obtain ⟨X, h1, h2⟩ := h.pts
  have hw := h.sh.lt
  have hblt : ∀ x, StO Db kb x → x < W.heap.size := fun x hx => by rcases hx with hx | hx; exact h.vb.lt x hx; exact h.vb.kin x hx
  refine ⟨D', hv, h.vb.out ho (fun x hb ha => h.dis x ha hb), h.bel.trans (ho.below h.bel.size (fun j hj => Nat.le_of_lt (h.lowa j hj))), ho.blk h.sh (fun hj => by have := h.lowa _ hj; omega), fun x hx => ?_, h.lowb, fun x hx hb => ?_, ⟨X, h1.out ho (fun x hx => (h2 x hx).1), fun x hx => ⟨fun hs => ?_, (h2 x hx).2.1, Nat.lt_of_lt_of_le (h2 x hx).2.2 ho.size⟩⟩, h.cap⟩
  · rcases hx with hx | hx
    · rcases hD x hx with h' | h'
      · exact h.lowa x (.inl h')
      · omega
    · exact h.lowa x (.inr hx)
  · rcases hx with hx | hx
    · rcases hD x hx with h' | h'
      · exact h.dis x (.inl h') hb
      · have := hblt x hb; omega
    · exact h.dis x (.inr hx) hb
  · rcases hs with hs | hs
    · rcases hD x hs with h' | h'
      · exact (h2 x hx).1 (.inl h')
      · have := (h2 x hx).2.2; omega
    · exact (h2 x hx).1 (.inr hs)
theorem Tw2.putA (h : Tw2 w W s Da ka sa ca Db kb sb cb A n C l) (hc : ca + n < 100000) : Calls Try.prog 11 #[.pointer (some ⟨ka.ps, 0, none⟩), .slice A n C] W fun e w' => e = .returned (.int .u16 (putM sa l).1) ∧ ∃ Da', Tw2 w w' s Da' ka (putM sa l).2 (ca + n) Db kb sb cb A n C l := by
  obtain ⟨X, h1, h2⟩ := h.pts
  refine (sput_of h.va A n C l X h1 h.cap (fun x hx => ⟨(h2 x hx).1, (h2 x hx).2.2⟩) hc).mono ?_
  rintro e w' ⟨rfl, sv⟩
  exact ⟨rfl, h.nextA sv⟩
/-- One of the list, put to the second store. -/
theorem Tw2.putB {b off i : Nat} {p : Pt} (h : Tw2 w W s Da ka sa ca Db kb sb cb (some ⟨b, off, none⟩) n C l) (hi : i < n) (hp : l[i]? = some p) (hc : cb + 1 < 100000) : Calls Try.prog 11 #[.pointer (some ⟨kb.ps, 0, none⟩), .slice (some ⟨b, off + i * 4, none⟩) 1 (C - i)] W fun e w' => e = .returned (.int .u16 (putM sb [p]).1) ∧ ∃ Db', Tw2 w w' s Da ka sa ca Db' kb (putM sb [p]).2 (cb + 1) (some ⟨b, off, none⟩) n C l := by
  obtain ⟨X, h1, h2⟩ := h.pts
  have hcap := h.cap
  have hpt := h1.part i 1 (by omega)
  have e1 : (l.drop i).take 1 = [p] := by rw [pdrop_at hp]; rfl
  rw [e1] at hpt
  refine (sput_of h.vb _ 1 (C - i) [p] X hpt (by omega) (fun x hx => ⟨(h2 x hx).2.1, (h2 x hx).2.2⟩) hc).mono ?_
  rintro e w' ⟨rfl, sv⟩
  obtain ⟨D', hn⟩ := h.swap.nextA sv
  exact ⟨rfl, D', hn.swap⟩
theorem tw_blocks {V V' : World} {S : Nat} {a1 : Option Addr} {n1 c1 : Nat} {x1 : List Pt} (hw : w.heap.size < V.heap.size) (hVV : V.heap.size ≤ V'.heap.size) (hb : Below w.heap.size w W) (hs : Blk W w.heap.size (shC s) 23) (hva : StV Da W ka sa ca) (hvb : StV Db W kb sb cb) (hOa : ∀ x, StO Da ka x → V.heap.size ≤ x ∧ x < V'.heap.size) (hOb : ∀ x, StO Db kb x → V'.heap.size ≤ x) (hl : PtsIn (fun x => x < w.heap.size) w a1 n1 x1) (hS : S ≤ 10000) :
    Calls Try.prog 10 #[.int .i64 (S : Nat), .slice a1 n1 c1] W fun e w' => ∃ A C, e = .returned (.slice A n1 C) ∧ Tw2 w w' s Da ka sa ca Db kb sb cb A n1 C (x1.map (blkP S)) := by
  have hlta : ∀ x, StO Da ka x → x < W.heap.size := fun x hx => by rcases hx with hx | hx; exact hva.lt x hx; exact hva.kin x hx
  have hltb : ∀ x, StO Db kb x → x < W.heap.size := fun x hx => by rcases hx with hx | hx; exact hvb.lt x hx; exact hvb.kin x hx
  refine (sblocks_of S a1 n1 c1 x1 (fun x => x < w.heap.size) W (hl.below hb) hS (fun x hx => Nat.lt_of_lt_of_le hx hb.size)).mono ?_
  rintro e w' ⟨A, C, rfl, hr⟩
  refine ⟨A, C, rfl, ⟨hva.under hr.bel, hvb.under hr.bel, hb.trans (hr.bel.mono hb.size), hs.below hr.bel hs.lt, fun x hx => by have := (hOa x hx).1; omega, fun x hx => by have := hOb x hx; omega, fun x ha hb' => by have := (hOa x ha).2; have := hOb x hb'; omega, ⟨_, hr.pts (by rw [List.length_map]; exact hl.1) hl.2.1, fun x hx => ⟨fun hso => ?_, fun hso => ?_, hx.2⟩⟩, hr.cap⟩⟩
  · rcases hx.1 with h | h
    · have := (hOa x hso).1; have h' : x < w.heap.size := h; omega
    · have := hlta x hso; omega
  · rcases hx.1 with h | h
    · have := hOb x hso; have h' : x < w.heap.size := h; omega
    · have := hltb x hso; omega
end
/-- One more that is put alone. -/
theorem put_one {st : St} {p : Pt} {l : List Pt} (hi : Inv st) (hf : p.Fits) (hm : memT st = l.foldl updP (fun _ => none)) (h0 : (putM st [p]).1 = 0) : Inv (putM st [p]).2 ∧ memT (putM st [p]).2 = (l ++ [p]).foldl updP (fun _ => none) := by
  by_cases ho : okP st.s [p]
  · have he : putM st [p] = putF 1 st [p] := by unfold putM; exact if_pos ho
    obtain ⟨m, r, h1, h2, h3, h4, h5, h6, _⟩ := putFmem 1 st [p] hi ho (fun q hq => by rw [List.mem_singleton.1 hq]; exact hf) (Nat.le_refl _)
    rw [he] at h0 ⊢
    rcases h6 with ⟨_, e, _⟩ | e
    · subst e
      refine ⟨h3, ?_⟩
      rw [h5, List.take_length, hm, List.foldl_append]
    · rw [e] at h0; cases h0
  · rw [put_bad ho] at h0; cases h0
end Go.Proofs.Ytjjpkjphghclpaa
