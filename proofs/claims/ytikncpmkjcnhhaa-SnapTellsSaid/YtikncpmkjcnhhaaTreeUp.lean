/- Paths are told by an iterator: upward, and what ranges over it. -/
import Derived.Test.YtikncpmkjcnhhaaTree2
import Derived.Test.YtikncpmkjcnhhaaRange
import Derived.Shelf.AbstractIn
namespace Go.Proofs.Ytikncpmkjcnhhaa
open Go.ChangeShapes Go.WideShapes Go.ChangeAt Go.RowKit Go.Shelf
attribute [local go_sem] Oper.semAt_some
set_option linter.unusedVariables false
variable {w0 w w' : World} {F0 : Nat → Prop} {L : List Asn}
theorem wide_deep {n : Nat} : Fence.wide.depth.isSome = true → 1 ≤ n := fun h => by simp [Fence.wide] at h
def nodeO (z : Int) : Obj := .cells #[.int .i64 z] 3 (0, 0)
/-- How far a node is from below the first one. -/
def nodeAt (b : Nat) (w : World) : Nat := match w.cell? ⟨b, 0, none⟩ with
  | some (.int _ z) => (z + 1).toNat
  | _ => 0
theorem nodeAt_eq {b : Nat} {z : Int} (h : w.cell? ⟨b, 0, none⟩ = some (.int .i64 z)) : nodeAt b w = (z + 1).toNat := by unfold nodeAt; rw [h]
def nodeK (ps : List Int) (v : Int) (k : Nat) : Int := if (path ps v).length = 0 then v else (path ps v).getD k (-1)
end Go.Proofs.Ytikncpmkjcnhhaa
