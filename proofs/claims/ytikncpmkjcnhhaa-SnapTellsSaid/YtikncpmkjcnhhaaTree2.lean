/- Contracts of package tree: a row of parents; who there is; settings that are right. -/
import Derived.Test.YtikncpmkjcnhhaaConf
import Derived.Test.YtikncpmkjcnhhaaTree
namespace Go.Proofs.Ytikncpmkjcnhhaa
open Go.ChangeShapes Go.WideShapes Go.ChangeAt Go.RowKit
set_option linter.unusedVariables false
variable {w0 w w' : World} {F0 : Nat → Prop} {L : List Asn}
end Go.Proofs.Ytikncpmkjcnhhaa
