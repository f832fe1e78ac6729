/- Texts of elder layers, one behind the other: Crew. -/
import Derived.Test.YtjohngpbggendaaGreatT8
import Derived.Laws.MakeOwn
section
/- Machines in the heap, a list of them: one is picked, and put back; a row of bools; turns. -/
namespace Go.Proofs.YtjohngpbggendaaGreat
open Go.ChangeShapes Go.WideShapes Go.ChangeAt Go.RowKit Go.Shelf
set_option linter.unusedVariables false
set_option maxRecDepth 100000
variable {w0 w w' : World} {F0 : Nat → Prop} {L : List Asn} {T : TypeId} {m : Nat} {ws : List Int} {lg : List Acc}
theorem Own.q2 {A B C : Asn} (h : Own w0 F0 (A :: B :: C :: L) w) : Own w0 F0 (C :: A :: B :: L) w := (h.under fun _ _ h => h.swap).swap
end Go.Proofs.YtjohngpbggendaaGreat
end
