/- Texts of this seat, one behind the other: StDn. -/
import Derived.Test.YtfcbcpjcmihooaaGreatQ17
import Derived.Test.YtfcbcpjcmihooaaGreatP22
import Derived.Test.YtfcbcpjcmihooaaGreatQ7
import Derived.Test.YtfcbcpjcmihooaaGreatP13
import Derived.Deep.DeepCutAuto
/- What one call of On (without lists) and New of the document's store does. -/
namespace Go.Proofs.YtfcbcpjcmihooaaGreat
open Go.RowKit
set_option linter.unusedVariables false
set_option maxRecDepth 4000
theorem dmNew0_of (w : World) : Calls Tryz.prog 104 #[] w fun e w' => e = .returned (.pointer (some ⟨w.heap.size, 0, none⟩)) ∧ Blk w' w.heap.size [.slice none 0 0] 170 ∧ Below w.heap.size w w' := by
  go_enter Tryz.func104, Tryz.ntmps104
  go_wp2
  go_ret
  exact ⟨rfl, Blk.new' rfl rfl, (Below.refl _ _).alloc (Nat.le_refl _) _⟩
theorem sdv_made {O : Nat → Prop} {W V : World} {p : Nat} {s : Sh} {zs : List Zn} {k : Rs} {q o : Int} (hd : Dv 142 O W p s zs) (hw : Wf s zs) (hb : Below W.heap.size W V) (hq : FitsU q) (hpd : k.pd = p) (hz : (s.z.toNat : Int) = s.z)
    (hs : SegR V k.pg k.gg k.gc s (newZ s.z.toNat)) (hm : Blk V k.pm [.slice none 0 0] 170) (hl : Blk V k.lb (kInts .u64 (List.replicate s.z.toNat 0)) 40) (hp : Blk V k.ps (sdL k q s.z.toNat o) 102)
    (g1 : W.heap.size ≤ k.pg) (g2 : W.heap.size ≤ k.gg) (g3 : W.heap.size ≤ k.pm) (g6 : W.heap.size ≤ k.lb) (g7 : W.heap.size ≤ k.ps) :
    SdV (fun x => O x ∧ x < W.heap.size) (fun _ => False) V k (newSt s zs q o) := by
  have h6 := hw.right.1
  have hlen := hw.len
  have a1 : k.ps ≠ k.pg := blk_ne' hp hs.hp (by decide)
  have a2 : k.ps ≠ k.pm := blk_ne' hp hm (by decide)
  have a3 : k.ps ≠ k.lb := blk_ne' hp hl (by decide)
  have a4 : k.pg ≠ k.pm := blk_ne' hs.hp hm (by decide)
  have a5 : k.pg ≠ k.lb := blk_ne' hs.hp hl (by decide)
  have a6 : k.pm ≠ k.lb := blk_ne' hm hl (by decide)
  have own : ∀ {x : Nat} {L : List Value} {t : TypeId}, Blk V x L t → t ≠ 5 → x ≠ k.gg := fun hb ht e => own_not hs.hg hb ht (by rw [e]; rfl)
  have b1 : k.ps ≠ k.gg := own hp (by decide)
  have b2 : k.pg ≠ k.gg := own hs.hp (by decide)
  have b3 : k.pm ≠ k.gg := own hm (by decide)
  have b4 : k.lb ≠ k.gg := own hl (by decide)
  refine ⟨?_, ?_, hs, ⟨⟨none, 0, 0, hm, World.ownsRow_nil _ _ _ _, fun g h => by cases h⟩, good_nil⟩, hl, hw, hq, ⟨?_, ?_⟩, ?_, ?_, fun _ _ h => h, ?_⟩
  · show Blk V k.ps (sdL k q (List.replicate s.z.toNat (0 : Int)).length o) 102
    rw [List.length_replicate]
    exact hp
  · rw [hpd]
    obtain ⟨g, c, vs, hv⟩ := hd.there
    exact ⟨g, c, vs, hv.under hb⟩
  · show (newZ s.z.toNat).length = zs.length
    rw [newZ_length (by omega)]
    omega
  · show (List.replicate s.z.toNat (0 : Int)).length = zs.length
    rw [List.length_replicate]
    omega
  · rintro x (⟨_, hx⟩ | hx)
    · exact Nat.lt_of_lt_of_le hx hb.size
    · exact hx.elim
  · rintro x hx
    refine ⟨fun hd => ?_, fun h => h⟩
    rcases hx with rfl | rfl | rfl | rfl | rfl <;> omega
  · simp only [List.nodup_cons, List.mem_cons, List.not_mem_nil, or_false, not_or, List.nodup_nil, and_true, not_false_eq_true]
    exact ⟨⟨a1, b1, a2, a3⟩, ⟨b2, a4, a5⟩, ⟨fun e => b3 e.symm, fun e => b4 e.symm⟩, a6⟩
end Go.Proofs.YtfcbcpjcmihooaaGreat
