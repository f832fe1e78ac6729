/- breadlinelaw06's laid. -/
import Derived.Test.YtikncpmkjcnhhaaAddLaw
namespace Go.Proofs.Ytikncpmkjcnhhaa
open Go.ChangeShapes Go.WideShapes Go.ChangeAt Go.RowKit Go.Shelf
set_option linter.unusedVariables false
set_option maxRecDepth 100000
variable {w0 w w' : World} {F0 : Nat → Prop} {L : List Asn} {ws : List Int}
def lay (ws : List Int) (k : Nat) : List Int := ws.take k ++ List.replicate (ws.length - k) 0
theorem lay_len (ws : List Int) (k : Nat) (h : k ≤ ws.length) : (lay ws k).length = ws.length := by simp [lay]; omega
theorem lay_zero (ws : List Int) : lay ws 0 = List.replicate ws.length 0 := by simp [lay]
theorem lay_all (ws : List Int) : lay ws ws.length = ws := by simp [lay]
theorem lay_set (ws : List Int) (k : Nat) (h : k < ws.length) : (lay ws k).set k (ws.getD k 0) = lay ws (k + 1) := by
  apply List.ext_getElem
  · rw [List.length_set, lay_len _ _ (by omega), lay_len _ _ (by omega)]
  · intro i h1 h2
    rw [List.length_set, lay_len _ _ (by omega)] at h1
    rw [List.getElem_set]
    simp only [lay, List.getElem_append, List.length_take, List.getElem_take, List.getElem_replicate]
    by_cases hi : k = i
    · subst hi
      rw [if_pos rfl, dif_pos (by omega)]
      simp [List.getD, h]
    · rw [if_neg hi]
      by_cases h3 : i < k
      · rw [dif_pos (by omega), dif_pos (by omega)]
      · rw [dif_neg (by omega), dif_neg (by omega)]
end Go.Proofs.Ytikncpmkjcnhhaa
