/-
  No cell of these rows narrows 'for every input' (looked for: loops, veiled, ifaces, maps, wideKeys, modest, calm, conditions, laid).
  DERIVED. THE GIVEN ROWS OF THIS SEAT. 6 by the template 'for every input the law returns true; each argument reads behind the call as it read before'; 0 by the template 'total and deterministic' (their statements: YtjohngpbggendaaGreatTotals.lean).
  GIVEN WITH THE SEED: the statements are not yours to turn. If you find one false, say at which input.
  Laid BY PROGRAM, IN A SANDBOX (cutbox-rows.mjs): the forced cells as the released guide's own fill.sh prints them over the translation 4c05d1692581b6ce… (all of the seat's roots in one cut). By AI agents, Wed Nov 11 2026. No macro, syntax, notation, axiom, sorry.
-/
import Derived.Test.YtjohngpbggendaaGreatChecked
import GoSem.Claim
import GoSem.ClaimJoined
import GoSem.ClaimMapViews
import Derived.JoinedTies
import Derived.KernelRfl
namespace Go.Proofs.YtjohngpbggendaaGreat
/- THE CELL 'sum', in the pinned program and in every row, IS THE sha256 OF THE DUMP (.gsa) THAT YtjohngpbggendaaGreatProg.lean LOADS. Nothing in Lean hashes anything: it is a label: what it is worth is what the hold of that sum in a sandbox is worth. -/
noncomputable def Tryz.pinned : Pinned := { name := "ytjohngpbggendaagreat", sum := "4c05d1692581b6ce52ce4a1799c6ac6477d0e51b163367164c0a280c99b922e4", checked := Tryz.checked }
namespace Rows
def none {H : Type} : Left H := { results := [], args := [] }

/-- 'breadlinelaw12.AdmitTells': WHATEVER THE INPUT: true; the input reads as it did. -/
def admitTellsSpec : ChangeSpec := { name := "admitTells", fn := fun _ => fun
  | [d1, d2] => { results := [.lit (.bool true)], args := [d1, d2] }
  | _ => none }
def admitTellsRow : OpenClaim := { program := "ytjohngpbggendaagreat", sum := "4c05d1692581b6ce52ce4a1799c6ac6477d0e51b163367164c0a280c99b922e4", func := "breadline/breadlinelaw12.AdmitTells", spec := "admitTells", unfollowed := true, recurses := true, apart := false }
def AdmitTellsSaid : Prop := admitTellsRow.holds Tryz.pinned (OpenSpec.ofChange admitTellsSpec)

/-- ITS FALSE NEIGHBOUR: 'it returns false'. Refute it at one input. -/
def admitTellsWrong : ChangeSpec := { name := "admitTells", fn := fun _ => fun
  | [d1, d2] => { results := [.lit (.bool false)], args := [d1, d2] }
  | _ => none }
def AdmitTellsWrongFalsely : Prop := admitTellsRow.holds Tryz.pinned (OpenSpec.ofChange admitTellsWrong)

/-- 'breadlinelaw12.AdmitNone': WHATEVER THE INPUT: true; the input reads as it did. -/
def admitNoneSpec : ChangeSpec := { name := "admitNone", fn := fun _ => fun
  | [d] => { results := [.lit (.bool true)], args := [d] }
  | _ => none }
def admitNoneRow : OpenClaim := { program := "ytjohngpbggendaagreat", sum := "4c05d1692581b6ce52ce4a1799c6ac6477d0e51b163367164c0a280c99b922e4", func := "breadline/breadlinelaw12.AdmitNone", spec := "admitNone", unfollowed := true, recurses := true, apart := false }
def AdmitNoneSaid : Prop := admitNoneRow.holds Tryz.pinned (OpenSpec.ofChange admitNoneSpec)

/-- ITS FALSE NEIGHBOUR: 'it returns false'. Refute it at one input. -/
def admitNoneWrong : ChangeSpec := { name := "admitNone", fn := fun _ => fun
  | [d] => { results := [.lit (.bool false)], args := [d] }
  | _ => none }
def AdmitNoneWrongFalsely : Prop := admitNoneRow.holds Tryz.pinned (OpenSpec.ofChange admitNoneWrong)

/-- 'breadlinelaw12.AdmitAlone': WHATEVER THE INPUT: true; the input reads as it did. -/
def admitAloneSpec : ChangeSpec := { name := "admitAlone", fn := fun _ => fun
  | [d] => { results := [.lit (.bool true)], args := [d] }
  | _ => none }
def admitAloneRow : OpenClaim := { program := "ytjohngpbggendaagreat", sum := "4c05d1692581b6ce52ce4a1799c6ac6477d0e51b163367164c0a280c99b922e4", func := "breadline/breadlinelaw12.AdmitAlone", spec := "admitAlone", unfollowed := true, recurses := true, apart := false }
def AdmitAloneSaid : Prop := admitAloneRow.holds Tryz.pinned (OpenSpec.ofChange admitAloneSpec)

/-- ITS FALSE NEIGHBOUR: 'it returns false'. Refute it at one input. -/
def admitAloneWrong : ChangeSpec := { name := "admitAlone", fn := fun _ => fun
  | [d] => { results := [.lit (.bool false)], args := [d] }
  | _ => none }
def AdmitAloneWrongFalsely : Prop := admitAloneRow.holds Tryz.pinned (OpenSpec.ofChange admitAloneWrong)

/-- 'breadlinelaw12.AdmitSteps': WHATEVER THE INPUT: true; the input reads as it did. -/
def admitStepsSpec : ChangeSpec := { name := "admitSteps", fn := fun _ => fun
  | [d] => { results := [.lit (.bool true)], args := [d] }
  | _ => none }
def admitStepsRow : OpenClaim := { program := "ytjohngpbggendaagreat", sum := "4c05d1692581b6ce52ce4a1799c6ac6477d0e51b163367164c0a280c99b922e4", func := "breadline/breadlinelaw12.AdmitSteps", spec := "admitSteps", unfollowed := true, recurses := true, apart := false }
def AdmitStepsSaid : Prop := admitStepsRow.holds Tryz.pinned (OpenSpec.ofChange admitStepsSpec)

/-- ITS FALSE NEIGHBOUR: 'it returns false'. Refute it at one input. -/
def admitStepsWrong : ChangeSpec := { name := "admitSteps", fn := fun _ => fun
  | [d] => { results := [.lit (.bool false)], args := [d] }
  | _ => none }
def AdmitStepsWrongFalsely : Prop := admitStepsRow.holds Tryz.pinned (OpenSpec.ofChange admitStepsWrong)

/-- 'breadlinelaw12.AdmitTwo': WHATEVER THE INPUT: true; the input reads as it did. -/
def admitTwoSpec : ChangeSpec := { name := "admitTwo", fn := fun _ => fun
  | [d1, d2, d3] => { results := [.lit (.bool true)], args := [d1, d2, d3] }
  | _ => none }
def admitTwoRow : OpenClaim := { program := "ytjohngpbggendaagreat", sum := "4c05d1692581b6ce52ce4a1799c6ac6477d0e51b163367164c0a280c99b922e4", func := "breadline/breadlinelaw12.AdmitTwo", spec := "admitTwo", unfollowed := true, recurses := true, apart := false }
def AdmitTwoSaid : Prop := admitTwoRow.holds Tryz.pinned (OpenSpec.ofChange admitTwoSpec)

/-- ITS FALSE NEIGHBOUR: 'it returns false'. Refute it at one input. -/
def admitTwoWrong : ChangeSpec := { name := "admitTwo", fn := fun _ => fun
  | [d1, d2, d3] => { results := [.lit (.bool false)], args := [d1, d2, d3] }
  | _ => none }
def AdmitTwoWrongFalsely : Prop := admitTwoRow.holds Tryz.pinned (OpenSpec.ofChange admitTwoWrong)

/-- 'breadlinelaw12.AdmitBack': WHATEVER THE INPUT: true; the input reads as it did. -/
def admitBackSpec : ChangeSpec := { name := "admitBack", fn := fun _ => fun
  | [d] => { results := [.lit (.bool true)], args := [d] }
  | _ => none }
def admitBackRow : OpenClaim := { program := "ytjohngpbggendaagreat", sum := "4c05d1692581b6ce52ce4a1799c6ac6477d0e51b163367164c0a280c99b922e4", func := "breadline/breadlinelaw12.AdmitBack", spec := "admitBack", unfollowed := true, recurses := true, apart := false }
def AdmitBackSaid : Prop := admitBackRow.holds Tryz.pinned (OpenSpec.ofChange admitBackSpec)

/-- ITS FALSE NEIGHBOUR: 'it returns false'. Refute it at one input. -/
def admitBackWrong : ChangeSpec := { name := "admitBack", fn := fun _ => fun
  | [d] => { results := [.lit (.bool false)], args := [d] }
  | _ => none }
def AdmitBackWrongFalsely : Prop := admitBackRow.holds Tryz.pinned (OpenSpec.ofChange admitBackWrong)

/- THE SECOND FORM. 'bulk': how many values and letters a reading holds, each counted each time it is reached (what is shared counts as often as it is met; a slice's spare places count too). A statement '..UptoSaid' is the law's where the arguments, and the package variables that the reading takes, are together of bulk at most 1048576: NARROWER than '..Said'. Prove '..Said' where nothing that the law and all that it calls make is longer than what came in: it says more and counts as full. Else prove '..UptoSaid'. A law counts once. -/
mutual
def uptoBulk {H : Type} : DataW H → Nat
  | .lit (.string bytes) => bytes.length + 1
  | .lit _ => 1
  | .nil => 1
  | .ptr d => uptoBulk d + 1
  | .slice elems spare => uptoBulkAll elems + uptoBulkAll spare + 1
  | .agg parts => uptoBulkAll parts + 1
  | .iface _ d => uptoBulk d + 1
  | .map entries => uptoBulkEntries entries + 1
  | .held _ => 1
def uptoBulkAll {H : Type} : List (DataW H) → Nat
  | [] => 0
  | d :: r => uptoBulk d + uptoBulkAll r
def uptoBulkEntries {H : Type} : List (Lit × DataW H) → Nat
  | [] => 0
  | x :: r => uptoBulkEntry x + uptoBulkEntries r
def uptoBulkEntry {H : Type} : Lit × DataW H → Nat
  | (.string bytes, d) => bytes.length + uptoBulk d + 1
  | (_, d) => uptoBulk d + 1
 end
def uptoSmall : (H : Type) → List (DataW H) → Bool := fun _ ds => decide (uptoBulkAll ds ≤ 1048576)
def OpenSpec.upto (s : _root_.Go.ChangeSpec) : _root_.Go.OpenSpec := { _root_.Go.OpenSpec.ofChange s with cond := some uptoSmall }

/-- 'breadlinelaw12.AdmitTells', WHERE WHAT IT READS IS OF BULK AT MOST 1048576: true; the input reads as it did. -/
def admitTellsUptoRow : OpenClaim := { program := "ytjohngpbggendaagreat", sum := "4c05d1692581b6ce52ce4a1799c6ac6477d0e51b163367164c0a280c99b922e4", func := "breadline/breadlinelaw12.AdmitTells", spec := "admitTells", unfollowed := true, recurses := true, apart := false, narrowed := true }
def AdmitTellsUptoSaid : Prop := admitTellsUptoRow.holds Tryz.pinned (OpenSpec.upto admitTellsSpec)

/-- 'breadlinelaw12.AdmitNone', WHERE WHAT IT READS IS OF BULK AT MOST 1048576: true; the input reads as it did. -/
def admitNoneUptoRow : OpenClaim := { program := "ytjohngpbggendaagreat", sum := "4c05d1692581b6ce52ce4a1799c6ac6477d0e51b163367164c0a280c99b922e4", func := "breadline/breadlinelaw12.AdmitNone", spec := "admitNone", unfollowed := true, recurses := true, apart := false, narrowed := true }
def AdmitNoneUptoSaid : Prop := admitNoneUptoRow.holds Tryz.pinned (OpenSpec.upto admitNoneSpec)

/-- 'breadlinelaw12.AdmitAlone', WHERE WHAT IT READS IS OF BULK AT MOST 1048576: true; the input reads as it did. -/
def admitAloneUptoRow : OpenClaim := { program := "ytjohngpbggendaagreat", sum := "4c05d1692581b6ce52ce4a1799c6ac6477d0e51b163367164c0a280c99b922e4", func := "breadline/breadlinelaw12.AdmitAlone", spec := "admitAlone", unfollowed := true, recurses := true, apart := false, narrowed := true }
def AdmitAloneUptoSaid : Prop := admitAloneUptoRow.holds Tryz.pinned (OpenSpec.upto admitAloneSpec)

/-- 'breadlinelaw12.AdmitSteps', WHERE WHAT IT READS IS OF BULK AT MOST 1048576: true; the input reads as it did. -/
def admitStepsUptoRow : OpenClaim := { program := "ytjohngpbggendaagreat", sum := "4c05d1692581b6ce52ce4a1799c6ac6477d0e51b163367164c0a280c99b922e4", func := "breadline/breadlinelaw12.AdmitSteps", spec := "admitSteps", unfollowed := true, recurses := true, apart := false, narrowed := true }
def AdmitStepsUptoSaid : Prop := admitStepsUptoRow.holds Tryz.pinned (OpenSpec.upto admitStepsSpec)

/-- 'breadlinelaw12.AdmitTwo', WHERE WHAT IT READS IS OF BULK AT MOST 1048576: true; the input reads as it did. -/
def admitTwoUptoRow : OpenClaim := { program := "ytjohngpbggendaagreat", sum := "4c05d1692581b6ce52ce4a1799c6ac6477d0e51b163367164c0a280c99b922e4", func := "breadline/breadlinelaw12.AdmitTwo", spec := "admitTwo", unfollowed := true, recurses := true, apart := false, narrowed := true }
def AdmitTwoUptoSaid : Prop := admitTwoUptoRow.holds Tryz.pinned (OpenSpec.upto admitTwoSpec)

/-- 'breadlinelaw12.AdmitBack', WHERE WHAT IT READS IS OF BULK AT MOST 1048576: true; the input reads as it did. -/
def admitBackUptoRow : OpenClaim := { program := "ytjohngpbggendaagreat", sum := "4c05d1692581b6ce52ce4a1799c6ac6477d0e51b163367164c0a280c99b922e4", func := "breadline/breadlinelaw12.AdmitBack", spec := "admitBack", unfollowed := true, recurses := true, apart := false, narrowed := true }
def AdmitBackUptoSaid : Prop := admitBackUptoRow.holds Tryz.pinned (OpenSpec.upto admitBackSpec)

end Rows
end Go.Proofs.YtjohngpbggendaaGreat
