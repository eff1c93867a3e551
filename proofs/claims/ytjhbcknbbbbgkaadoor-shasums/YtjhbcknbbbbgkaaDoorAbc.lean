/- The digest of 'abc', reckoned: the chapter's example. -/
import Derived.Test.YtjhbcknbbbbgkaaDoorDigest
namespace Go.Proofs.YtjhbcknbbbbgkaaDoor
open Go.RowKit
set_option maxRecDepth 100000

def abcBlk : List Int := [97, 98, 99, 128, 0, 0, 0, 0, 0, 0, 0, 0, 0, 0, 0, 0, 0, 0, 0, 0, 0, 0, 0, 0, 0, 0, 0, 0, 0, 0, 0, 0, 0, 0, 0, 0, 0, 0, 0, 0, 0, 0, 0, 0, 0, 0, 0, 0, 0, 0, 0, 0, 0, 0, 0, 0, 0, 0, 0, 0, 0, 0, 0, 24]
def abcW : List Int := [1633837952, 0, 0, 0, 0, 0, 0, 0, 0, 0, 0, 0, 0, 0, 0, 24, 1633837952, 983040, 2108187653, 1610613702, 1050508152, 25426944, 316456923, 3806512014, 3357629466, 3073800610, 3854317833, 845560923, 2636160359, 3968280267, 1881225380, 3552024379, 2482346367, 996719219, 2952069057, 4043988066, 176896406, 1924104970, 2483675966, 610538786, 2672279444, 4037431130, 1042573945, 657669027, 206005234, 2215296807, 2049510749, 106709978, 4215179723, 3430291419, 3118885940, 2845390439, 2226839261, 3256115900, 344409900, 2987358873, 4015503821, 3957764664, 2682456414, 2025622859, 2755645205, 1720397816, 4004225740, 313650667]
def abcR : List Int := [1349398616, 3550093669, 80891244, 3093179625, 1593118500, 4212265488, 2492278198, 2518632596]
def abcA : List Int := [3128432319, 2399260650, 1094795486, 1571693091, 2953011619, 2518121116, 3021012833, 4060091821]
def abcD : List Int := [186, 120, 22, 191, 143, 1, 207, 234, 65, 65, 64, 222, 93, 174, 34, 35, 176, 3, 97, 163, 150, 23, 122, 156, 180, 16, 255, 97, 242, 0, 21, 173]
theorem abc_tail : [97, 98, 99] ++ tailI 3 = abcBlk := by kernel_rfl
theorem abc_words : schedN abcBlk 64 = abcW := by kernel_rfl
theorem abc_rounds : roundsN startS abcW 64 = abcR := by kernel_rfl
theorem abc_add : addN startS abcR 8 = abcA := by kernel_rfl
theorem abc_dig : digN abcA 8 = abcD := by kernel_rfl
theorem abc_mix : mixI startS abcBlk = abcA := by unfold mixI; rw [abc_words, abc_rounds, abc_add]
theorem abc_sum : sumI (takeI st0 [97, 98, 99]) = abcD := by
  have hT : (takeI st0 [97, 98, 99]).T = 3 := by rw [takeI_T]; rfl
  unfold sumI
  rw [hT, ← takeI_append, abc_tail, take_part abcBlk st0 (by decide) (by rfl) (by decide)]
  rw [if_pos (by decide)]
  have e1 : st0.S = startS := rfl
  have e2 : st0.R = List.replicate 64 0 := rfl
  have e3 : st0.T % 64 = 0 := rfl
  dsimp only
  rw [e1, e2, e3, splice_all _ _ (by rfl), abc_mix, abc_dig]
end Go.Proofs.YtjhbcknbbbbgkaaDoor
