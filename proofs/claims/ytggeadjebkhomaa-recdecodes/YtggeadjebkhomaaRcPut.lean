/- A page in memory; what one call of rec's put does. -/
import Derived.Test.YtggeadjebkhomaaRcSmall
import Derived.Deep.RegionLaw
import Derived.Deep.RegionHeld3
namespace Go.Proofs.Ytggeadjebkhomaa
open Go.RowKit
set_option linter.unusedVariables false
set_option maxRecDepth 4000

theorem Try.byte1 : (Try.prog.info? 5).map (·.size) = some 1 := by kernel_rfl
/-- A page: its bytes in a row of their own, and where the next number goes. -/
structure Pg (w : World) (g pb N k : Nat) (L : List Int) : Prop where
  hp : Blk w g [.slice (some ⟨pb, 0, none⟩) N N, .int .i64 (k : Nat)] 62
  hb : Blk w pb (u8s L) 5
  len : L.length = N
  ne : g ≠ pb
theorem Pg.below {w w' : World} {g pb N k : Nat} {L : List Int} (h : Pg w g pb N k L) (hb : Below w.heap.size w w') : Pg w' g pb N k L := ⟨h.hp.below hb h.hp.lt, h.hb.below hb h.hb.lt, h.len, h.ne⟩
theorem Pg.drew {w : World} {g pb N k : Nat} {L : List Int} (h : Pg w g pb N k L) : Pg w.drew g pb N k L := ⟨h.hp.drew, h.hb.drew, h.len, h.ne⟩
theorem u8s_splice (L : List Int) (o : Nat) (zs : List Int) : splice (u8s L) o (u8s zs) = u8s (splice L o zs) := by simp [splice, u8s, List.map_take, List.map_drop]
theorem splice_length {L zs : List Int} {o : Nat} (h : o + zs.length ≤ L.length) : (splice L o zs).length = L.length := by
  simp only [splice, List.length_append, List.length_take, List.length_drop]; omega
theorem copy_src {w : World} {q o : Nat} {a : Option Addr} {n : Nat} {zs : List Int} (h : BIn w a n zs) : 0 < (u8s zs).length → (some ⟨q, o, none⟩ : Option Addr) = some ⟨q, o, none⟩ ∧ ∃ ad, a = some ad ∧ ∀ j v, (u8s zs)[j]? = some v → w.cell? (ad.add j) = some v := by
  intro hp
  refine ⟨rfl, ?_⟩
  obtain ⟨hl, _, _, hc⟩ := h
  rw [u8s_length, hl] at hp
  obtain ⟨b, off, rfl, hcell⟩ := hc.resolve_left (by omega)
  refine ⟨_, rfl, fun j v hj => ?_⟩
  have hjl : j < n := by
    have := (List.getElem?_eq_some_iff.1 hj).1
    rwa [u8s_length, hl] at this
  rw [Addr.add_mid, hcell j hjl, ← hj]
  simp [u8s, List.getD, hl, hjl]
/-- A copy into a row, as a step of a region that draws its order: no other block changes. -/
theorem step_copy_one {P : Program} {ops : Array Oper} {o : Oper} {a : Act} {w : World} {K : Act → World → Prop} {Q : Exit → Act → World → Prop} {E : Prop} (hgd : o.guard = none) (d s : Operand) (dT sT : TypeId)
    (ho : o.op = .call { callee := .builtin .copy, args := #[d, s], argTypes := #[dT, sT] }) (elem : TypeId) (hu : P.underlying dT = some (.slice elem)) (hsz : (P.info? elem).map (·.size) = some 1)
    (dp sp : Option Addr) (dLen dCap sLen sCap : Nat) (hd : a.eval d = .slice dp dLen dCap) (hs : a.eval s = .slice sp sLen sCap)
    (g off : Nat) (cur : List Value) (t : TypeId) (hg : Blk w g cur t) (cs : List Value) (hn : cs.length = Nat.min sLen dLen)
    (hpos : 0 < cs.length → dp = some ⟨g, off, none⟩ ∧ ∃ ad, sp = some ad ∧ ∀ j v, cs[j]? = some v → w.cell? (ad.add j) = some v)
    (hfit : off + cs.length ≤ cur.length) (h1 : ∀ v ∈ cs, v.oneCell' = true)
    (h : ∀ w', Blk w' g (splice cur off cs) t → Below g w w' → (∀ k, k ≠ g → w'.heap[k]? = w.heap[k]?) → w'.heap.size = w.heap.size → K (a.put o.dst (goInt cs.length)) w') :
    if Region.wanted o (yielded ops a.tmps) = true then Oper.wp P o a w K Q else E := by
  have hw : Region.wanted o (yielded ops a.tmps) = true := by simp [Region.wanted, hgd]
  rw [if_pos hw]
  by_cases h0 : cs.length = 0
  · obtain rfl : cs = [] := List.eq_nil_of_length_eq_zero h0
    have hrun := run_copy_none (P := P) w dT sT o.type elem dp sp dLen dCap sLen sCap hu hsz (by simpa using hn.symm)
    unfold Oper.wp
    simp [execOp, ho, resolve, invoke, builtin, hd, hs, hrun, Result.andThen]
    exact h w (by have e : splice cur off ([] : List Value) = cur := (by simp [splice])
                  rw [e]; exact hg) (Below.refl _ _) (fun _ _ => rfl) rfl
  · obtain ⟨rfl, ad, rfl, hsrc⟩ := hpos (by omega)
    have hrun := run_copy_row (P := P) w dT sT o.type elem g off dLen dCap ad sLen sCap cur.toArray t cs hu hsz hg hn hsrc (by simpa using hfit) h1
    unfold Oper.wp
    simp [execOp, ho, resolve, invoke, builtin, hd, hs, hrun, Result.andThen]
    exact h _ (show _ = _ by simpa [splice] using setRow_heap w g _ _ t _ hg) (below_setRow (Below.refl _ _) (Nat.le_refl _) _) (fun k hk => setRow_other w g k _ hk) (by simp [World.setRow])
theorem blk_same {w w' : World} {g : Nat} {L : List Value} {t : TypeId} (h : Blk w g L t) (e : w'.heap[g]? = w.heap[g]?) : Blk w' g L t := by unfold Blk; rw [e]; exact h
def PutE (w : World) (B g pb N k : Nat) (L P : List Int) (e : Ending) (w' : World) : Prop := e = .returned (.tuple #[]) ∧ Pg w' g pb N (k + P.length) (splice L k P) ∧ Below B w w' ∧ ∀ j, j < w.heap.size → j ≠ g → j ≠ pb → w'.heap[j]? = w.heap[j]?
theorem put_end {w w2 w4 : World} {B g pb N k : Nat} {L P : List Int} (h : Pg w g pb N k L) (hk : k + P.length ≤ N) (hBp : B ≤ pb) (hBg : B ≤ g) (p3 : Pg w2 g pb N k L) (b3 : Below w.heap.size w w2) (hg4 : Blk w4 pb (splice (u8s L) k (u8s P)) 5) (hb4 : Below pb w2 w4) (b4 : Blk w4 g [.slice (some ⟨pb, 0, none⟩) N N, .int .i64 (k : Nat)] 62) (ho4 : ∀ j, j ≠ pb → w4.heap[j]? = w2.heap[j]?) :
    Pg (w4.setCell ⟨g, 1, none⟩ (.int .i64 ((k : Int) + (P.length : Int)))) g pb N (k + P.length) (splice L k P) ∧ Below B w (w4.setCell ⟨g, 1, none⟩ (.int .i64 ((k : Int) + (P.length : Int)))) ∧ ∀ j, j < w.heap.size → j ≠ g → j ≠ pb → (w4.setCell ⟨g, 1, none⟩ (.int .i64 ((k : Int) + (P.length : Int)))).heap[j]? = w.heap[j]? := by
  have hl := h.hp.lt
  refine ⟨⟨b4.set 1 _, ?_, by rw [splice_length (by rw [h.len]; exact hk)]; exact h.len, h.ne⟩, ?_, fun j h1 h2 h3 => ?_⟩
  · have := hg4.set_other (a := ⟨g, 1, none⟩) (fun e => h.ne e.symm) (.int .i64 ((k : Int) + (P.length : Int)))
    rw [u8s_splice] at this
    exact this
  · exact ((b3.mono (by omega)).trans (hb4.mono hBp)).setCell hBg _
  · rw [Below.heap_setCell _ _ _ _ (by exact h2), ho4 j h3, b3.block j h1]
set_option maxHeartbeats 2000000 in
theorem put_of (g pb N k : Nat) (L : List Int) (b : Option Addr) (n c : Nat) (ws : List Int) (d : Option Addr) (m f : Nat) (vs : List Int) (B : Nat) (w : World) (hp : Pg w g pb N k L) (hx : NIn .i64 w b n ws) (hy : NIn .u64 w d m vs)
    (hk : k + (packL ws vs).length ≤ N) (hkN : k < N) (hN : N ≤ 100000) (hn : n ≤ 1000) (hm : m ≤ 1000) (hBp : B ≤ pb) (hBg : B ≤ g) :
    Calls Try.prog 32 #[.pointer (some ⟨g, 0, none⟩), .slice b n c, .slice d m f] w (PutE w B g pb N k L (packL ws vs)) := by
  obtain ⟨P, hP⟩ : ∃ P, P = packL ws vs := ⟨_, rfl⟩
  have hPf := packL_fits ws vs
  have cP := pack_of b n c ws d m f vs w.drew hx hy (by omega) (by omega)
  rw [← hP] at hk hPf cP ⊢
  obtain ⟨K, hK⟩ : ∃ K, K = P.length := ⟨_, rfl⟩
  have c0 : w.cell? ⟨g, 0, none⟩ = some (.slice (some ⟨pb, 0, none⟩) N N) := hp.hp.cell 0
  have c1 : w.cell? ⟨g, 1, none⟩ = some (.int .i64 (k : Nat)) := hp.hp.cell 1
  have hsl : ∀ w : World, (Instr.slice 26 (.slice (some ⟨pb, 0, none⟩) N N) (some (.int .i64 (k : Int))) none none).run Try.prog w = .ok (.slice (some ⟨pb, k, none⟩) (N - k) (N - k)) w := fun w => by
    have := slice_back Try.underlying26 Try.one_bytes (some ⟨pb, 0, none⟩) N N k (by omega) w
    rw [if_neg (by omega)] at this
    simpa [Addr.add_mid] using this
  have hw : IntKind.i64.wrap ((k : Int) + ((u8s P).length : Nat)) = ((k + P.length : Nat) : Int) := by rw [IntKind.wrap_i64, u8s_length]; omega
  have H : Hid (Pg w g pb N k L ∧ K = P.length ∧ (∀ z ∈ P, Fits8 z) ∧ k + K ≤ N ∧ B ≤ pb ∧ B ≤ g ∧ N ≤ 100000 ∧ B ≤ w.heap.size) := ⟨hp, hK, hPf, by omega, hBp, hBg, hN, by have := hp.hp.lt; omega⟩
  clear hx hy hp hPf hP hk hkN hN hn hm hBp hBg hK
  go_enter Try.func32, Try.ntmps32
  go_region_law (first
    | (go_simp; go_at_call 41; refine cP.mono ?_; rintro e w2 ⟨a2, m2, d2, rfl, hm2, ow2, b2⟩; have hm3 : m2 = K := hm2.trans H.out.2.1.symm; clear hm2; subst hm3; have b3 : Below w.heap.size w w2 := (Below.refl _ _).drew.trans b2; have p3 := H.out.1.below b3; have k0 : w2.cell? ⟨g, 0, none⟩ = some (.slice (some ⟨pb, 0, none⟩) N N) := p3.hp.cell 0; have k1 : w2.cell? ⟨g, 1, none⟩ = some (.int .i64 (k : Nat)) := p3.hp.cell 1; have i3 : BIn w2 a2 m2 P := own_bin ow2 (by have := H.out; unfold maxLen; omega) H.out.2.2.1)
    | (refine step_copy_one rfl (.tmp 18) (.tmp 21) 26 26 rfl 5 Try.underlying26 Try.byte1 (some ⟨pb, k, none⟩) a2 (N - k) (N - k) m2 d2 rfl rfl pb k (u8s L) 5 p3.hb (u8s P) (by rw [u8s_length, ← H.out.2.1]; exact (Nat.min_eq_left (by have := H.out.2.2.2.1; omega)).symm) (copy_src i3) (by rw [u8s_length, u8s_length, ← H.out.2.1, p3.len]; exact H.out.2.2.2.1) (u8s_one _) ?_; intro w4 hg4 hb4 ho4 hs4; have b4 := blk_same p3.hp (ho4 g p3.ne); have q1 : w4.cell? ⟨g, 1, none⟩ = some (.int .i64 (k : Nat)) := b4.cell 1; have q2 := b4.frozen 1))
  all_goals (
    have HZ := put_end H.out.1 (by rw [← H.out.2.1]; exact H.out.2.2.2.1) H.out.2.2.2.2.1 H.out.2.2.2.2.2.1 p3 b3 hg4 hb4 b4 ho4
    clear hg4 hb4 ho4 hs4 b4 q1 q2 p3 i3 b3 ow2 b2 k0 k1 c0 c1 hsl hw cP
    go_end0
    exact ⟨rfl, HZ⟩)
end Go.Proofs.Ytggeadjebkhomaa
