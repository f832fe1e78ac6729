/- Contracts of package tree: bounds, parents, who there is. -/
import Derived.Test.YtikncpmkjcnhhaaInts
import Derived.Test.YtikncpmkjcnhhaaTreeMath
namespace Go.Proofs.Ytikncpmkjcnhhaa
open Go.ChangeShapes Go.WideShapes Go.ChangeAt Go.RowKit
set_option linter.unusedVariables false
variable {w0 w w' : World} {F0 : Nat → Prop} {L : List Asn}
/-- One number, as a row of a block that is new. -/
theorem one_at (w : World) (x : Int) (n : Nat) (hn : n = w.heap.size) : IntsAt (w.alloc (.cells #[.int .i64 x] 3)) .i64 (.slice (some ⟨n, 0, none⟩) 1 1) [x] := by
  refine Or.inr ⟨by simp, n, 0, 1, rfl, by simp; omega, fun j hj => ?_⟩
  have : j = 0 := by simpa using hj
  subst this
  rw [hn, Nat.zero_add, World.cell?_alloc_new]
  rfl
theorem allIn_one {lo hi x : Int} : AllIn lo hi [x] ↔ Bd lo hi x := by
  constructor
  · intro h; exact h 0 (by simp)
  · intro h i hi'
    have : i = 0 := by simpa using hi'
    subst this; exact h
end Go.Proofs.Ytikncpmkjcnhhaa
