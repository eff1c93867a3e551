/- Checkpoints by turns: what stands between two of them. -/
import Derived.Test.YteokhkoaieibmaaCkSame
import Derived.Test.YteokhkoaieibmaaZRRight
namespace Go.Proofs.Yteokhkoaieibmaa
open Go.RowKit Go.Shelf
set_option linter.unusedVariables false
set_option maxRecDepth 4000

def TrSt (w : World) (s : Sh) (p slot : Nat) (S : Int) (wr : World) : Prop := ∃ O zs, Dv 104 O wr p s zs ∧ Wf s zs ∧ (∀ x, O x → w.heap.size ≤ x ∧ x < wr.heap.size) ∧ Below w.heap.size w wr ∧ (∀ z, zs[1 - slot]? = some z → IsK s z.1 → allSeq z.1 ≤ S)
def TrDone (w : World) (s : Sh) (p slot : Nat) (S : Int) (ps : List Pl) (V : World) : Prop := ∃ O zs, Dv 104 O V p s zs ∧ Wf s zs ∧ (∀ x, O x → w.heap.size ≤ x) ∧ Below w.heap.size w V ∧ bestK s zs 2 = (S, ps, (slot : Int), 0) ∧ (∀ z, zs[slot]? = some z → IsK s z.1 → allSeq z.1 ≤ S)
theorem not_isK_nil (s : Sh) : ¬ IsK s [] := fun h => by have := h.pos; simp at this
theorem tr_start {w V W : World} {s : Sh} {p : Nat} (hr : RightS s) (hb : Below w.heap.size w V) (hV : Below V.heap.size V W) (hd : Dv 104 (fun x => V.heap.size ≤ x) W p s (emptyZ s.z.toNat)) : TrSt w s p 0 0 W := by
  refine ⟨_, _, hd.there, empty_wf hr, fun x hx => ⟨by have := hb.size; have := hx.1; omega, hx.2⟩, hb.trans (hV.mono hb.size), fun z hz hk => ?_⟩
  have := (List.mem_replicate.1 (List.mem_of_getElem? hz)).2
  subst this
  exact absurd hk (not_isK_nil s)
theorem turn_save {w wr V : World} {s : Sh} {p slot : Nat} {S S' : Int} {A : Option Addr} {N C : Nat} {ps : List Pl} (h : TrSt w s p slot S wr) (hV : Below wr.heap.size wr V) (hs : slot < 2) (hS : S < S') (hF : FitsU S') (hk : KIn V A N ps) (hN : N ≤ C) :
    Calls Try.prog 24 #[.pointer (some ⟨p, 0, none⟩), .int .i64 (slot : Int), .agg #[.int .u64 S', .slice A N C]] V fun e V' => ∃ E, e = .returned (.int .u16 E) ∧ (E = 0 → TrDone w s p slot S' ps V') ∧ Below w.heap.size w V' ∧ ∀ g L t, Blk V g L t → wr.heap.size ≤ g → Blk V' g L t := by
  obtain ⟨O, zs, hd, hw, hO, hb, hz⟩ := h
  refine (ksave_of (slot : Int) S' A N C ps (kdv_under hd hV) hw hF hk hN).mono ?_
  rintro e V' ⟨rfl, O', hd', hO', ho⟩
  have h1 := hb.size
  have h2 := hV.size
  have hbV : Below w.heap.size w V := hb.trans (hV.mono h1)
  have hbV' : Below w.heap.size w V' := hbV.trans (ho.below hbV.size (fun x hx => (hO x hx).1))
  refine ⟨_, rfl, fun hE => ?_, hbV', fun g L t hg hlt => ho.blk hg (fun hx => by have := (hO g hx).2; omega)⟩
  have hck : ckE s ps = 0 := by unfold svE at hE; rwa [if_pos (by omega)] at hE
  rw [(svZ_ok (zs := zs) (seq := S') hs hck).2] at hd'
  have hlen : 6 ≤ zs.length := by have h3 := hw.len; have h4 := hw.right.1; omega
  have hn : ∀ x ∈ ps, FitsN x.1 := fun x hx => (hk.2.2.1 x hx).1
  obtain ⟨k1, k2, k3⟩ := isK_enc hF hn hck
  have hat : (putZ zs slot (ckL s S' ps))[slot]? = some (ckL s S' ps, ((ckL s S' ps).length : Int)) := putZ_at (by omega)
  obtain ⟨z, hzz⟩ : ∃ z, zs[1 - slot]? = some z := ⟨zs[1 - slot]'(by omega), by simp⟩
  have hot : (putZ zs slot (ckL s S' ps))[1 - slot]? = some (z.1, (z.1.length : Int)) := putZ_other (by omega) hzz
  have hlt : IsK s z.1 → allSeq z.1 < S' := fun hk => by have := hz z hzz hk; omega
  refine ⟨_, _, hd', wf_putZ hw slot hck, fun x hx => ?_, hbV', ?_, fun z' hz' _ => ?_⟩
  · rcases hO' x hx with h | h
    · exact (hO x h).1
    · omega
  · match slot, hs, hat, hot with
    | 0, _, hat, hot =>
      have := (best_i (s := s) hat hot).1 k1 (fun h => by have h2 : allSeq (ckL s S' ps) < allSeq z.1 := h.2; have h3 := hlt h.1; rw [k2] at h2; omega)
      rw [this, k2, k3]; rfl
    | 1, _, hat, hot =>
      have := (best_i (s := s) hot hat).2 k1 (fun h => by rw [k2]; exact hlt h)
      rw [this, k2, k3]; rfl
  · rw [hat] at hz'
    obtain rfl := Option.some.inj hz'
    rw [k2]
    exact Int.le_refl _
theorem turn_load {w V : World} {s : Sh} {p slot : Nat} {S : Int} {ps : List Pl} (h : TrDone w s p slot S ps V) :
    Calls Try.prog 22 #[.pointer (some ⟨p, 0, none⟩)] V fun e V' => ∃ A N C, e = .returned (.tuple #[.agg #[.int .u64 S, .slice A N C], .int .i64 (slot : Int), .int .u16 0]) ∧ KIn V' A N ps ∧ Below V.heap.size V V' := by
  obtain ⟨O, zs, hd, hw, hO, hb, hB, hz⟩ := h
  refine (kload_of hd hw).mono ?_
  rintro e V' ⟨A, N, C, rfl, h1, h2, h3⟩
  rw [hB] at h1 ⊢
  exact ⟨A, N, C, rfl, h1, h3⟩
theorem turn_next {w V V' : World} {s : Sh} {p slot : Nat} {S : Int} {ps : List Pl} (h : TrDone w s p slot S ps V) (hs : slot < 2) (hV : Below V.heap.size V V') : TrSt w s p (1 - slot) S V' := by
  obtain ⟨O, zs, hd, hw, hO, hb, hB, hz⟩ := h
  refine ⟨_, zs, (kdv_under hd hV).there, hw, fun x hx => ⟨hO x hx.1, hx.2⟩, hb.trans (hV.mono hb.size), fun z hzz => hz z ?_⟩
  rw [show 1 - (1 - slot) = slot by omega] at hzz
  exact hzz
theorem TrSt.bel {w wr : World} {s : Sh} {p slot : Nat} {S : Int} (h : TrSt w s p slot S wr) : Below w.heap.size w wr := by
  obtain ⟨O, zs, _, _, _, hb, _⟩ := h
  exact hb
end Go.Proofs.Yteokhkoaieibmaa
