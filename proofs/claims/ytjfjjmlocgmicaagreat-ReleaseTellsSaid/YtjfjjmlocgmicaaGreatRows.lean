/-
  No cell of these rows narrows 'for every input' (looked for: loops, veiled, ifaces, maps, wideKeys, modest, calm, conditions, laid).
  DERIVED. THE GIVEN ROWS OF THIS SEAT. 6 by the template 'for every input the law returns true; each argument reads behind the call as it read before'; 0 by the template 'total and deterministic' (their statements: YtjfjjmlocgmicaaGreatTotals.lean).
  GIVEN WITH THE SEED: the statements are not yours to turn. If you find one false, say at which input.
  Laid BY PROGRAM, IN A SANDBOX (cutbox-rows.mjs): the forced cells as the released guide's own fill.sh prints them over the translation 711c34eba728c21b… (all of the seat's roots in one cut). By AI agents, Wed Nov 11 2026. No macro, syntax, notation, axiom, sorry.
-/
import Derived.Test.YtjfjjmlocgmicaaGreatChecked
import GoSem.Claim
import GoSem.ClaimJoined
import GoSem.ClaimMapViews
import Derived.JoinedTies
import Derived.KernelRfl
namespace Go.Proofs.YtjfjjmlocgmicaaGreat
/- THE CELL 'sum', in the pinned program and in every row, IS THE sha256 OF THE DUMP (.gsa) THAT YtjfjjmlocgmicaaGreatProg.lean LOADS. Nothing in Lean hashes anything: it is a label: what it is worth is what the hold of that sum in a sandbox is worth. -/
noncomputable def Tryz.pinned : Pinned := { name := "ytjfjjmlocgmicaagreat", sum := "711c34eba728c21bb78e50b793c71ad27c63afd4d4171dd2a39da3f7cc90b5ef", checked := Tryz.checked }
namespace Rows
def none {H : Type} : Left H := { results := [], args := [] }

/-- 'breadlinelaw13.ReleaseTells': WHATEVER THE INPUT: true; the input reads as it did. -/
def releaseTellsSpec : ChangeSpec := { name := "releaseTells", fn := fun _ => fun
  | [d1, d2, d3, d4, d5] => { results := [.lit (.bool true)], args := [d1, d2, d3, d4, d5] }
  | _ => none }
def releaseTellsRow : OpenClaim := { program := "ytjfjjmlocgmicaagreat", sum := "711c34eba728c21bb78e50b793c71ad27c63afd4d4171dd2a39da3f7cc90b5ef", func := "breadline/breadlinelaw13.ReleaseTells", spec := "releaseTells", unfollowed := true, recurses := true, apart := false }
def ReleaseTellsSaid : Prop := releaseTellsRow.holds Tryz.pinned (OpenSpec.ofChange releaseTellsSpec)

/-- ITS FALSE NEIGHBOUR: 'it returns false'. Refute it at one input. -/
def releaseTellsWrong : ChangeSpec := { name := "releaseTells", fn := fun _ => fun
  | [d1, d2, d3, d4, d5] => { results := [.lit (.bool false)], args := [d1, d2, d3, d4, d5] }
  | _ => none }
def ReleaseTellsWrongFalsely : Prop := releaseTellsRow.holds Tryz.pinned (OpenSpec.ofChange releaseTellsWrong)

/-- 'breadlinelaw13.ReleaseAlone': WHATEVER THE INPUT: true; the input reads as it did. -/
def releaseAloneSpec : ChangeSpec := { name := "releaseAlone", fn := fun _ => fun
  | [d1, d2, d3, d4] => { results := [.lit (.bool true)], args := [d1, d2, d3, d4] }
  | _ => none }
def releaseAloneRow : OpenClaim := { program := "ytjfjjmlocgmicaagreat", sum := "711c34eba728c21bb78e50b793c71ad27c63afd4d4171dd2a39da3f7cc90b5ef", func := "breadline/breadlinelaw13.ReleaseAlone", spec := "releaseAlone", unfollowed := true, recurses := true, apart := false }
def ReleaseAloneSaid : Prop := releaseAloneRow.holds Tryz.pinned (OpenSpec.ofChange releaseAloneSpec)

/-- ITS FALSE NEIGHBOUR: 'it returns false'. Refute it at one input. -/
def releaseAloneWrong : ChangeSpec := { name := "releaseAlone", fn := fun _ => fun
  | [d1, d2, d3, d4] => { results := [.lit (.bool false)], args := [d1, d2, d3, d4] }
  | _ => none }
def ReleaseAloneWrongFalsely : Prop := releaseAloneRow.holds Tryz.pinned (OpenSpec.ofChange releaseAloneWrong)

/-- 'breadlinelaw13.ReleaseOnce': WHATEVER THE INPUT: true; the input reads as it did. -/
def releaseOnceSpec : ChangeSpec := { name := "releaseOnce", fn := fun _ => fun
  | [d1, d2, d3, d4, d5, d6] => { results := [.lit (.bool true)], args := [d1, d2, d3, d4, d5, d6] }
  | _ => none }
def releaseOnceRow : OpenClaim := { program := "ytjfjjmlocgmicaagreat", sum := "711c34eba728c21bb78e50b793c71ad27c63afd4d4171dd2a39da3f7cc90b5ef", func := "breadline/breadlinelaw13.ReleaseOnce", spec := "releaseOnce", unfollowed := true, recurses := true, apart := false }
def ReleaseOnceSaid : Prop := releaseOnceRow.holds Tryz.pinned (OpenSpec.ofChange releaseOnceSpec)

/-- ITS FALSE NEIGHBOUR: 'it returns false'. Refute it at one input. -/
def releaseOnceWrong : ChangeSpec := { name := "releaseOnce", fn := fun _ => fun
  | [d1, d2, d3, d4, d5, d6] => { results := [.lit (.bool false)], args := [d1, d2, d3, d4, d5, d6] }
  | _ => none }
def ReleaseOnceWrongFalsely : Prop := releaseOnceRow.holds Tryz.pinned (OpenSpec.ofChange releaseOnceWrong)

/-- 'breadlinelaw13.ReleaseAgain': WHATEVER THE INPUT: true; the input reads as it did. -/
def releaseAgainSpec : ChangeSpec := { name := "releaseAgain", fn := fun _ => fun
  | [d1, d2, d3, d4] => { results := [.lit (.bool true)], args := [d1, d2, d3, d4] }
  | _ => none }
def releaseAgainRow : OpenClaim := { program := "ytjfjjmlocgmicaagreat", sum := "711c34eba728c21bb78e50b793c71ad27c63afd4d4171dd2a39da3f7cc90b5ef", func := "breadline/breadlinelaw13.ReleaseAgain", spec := "releaseAgain", unfollowed := true, recurses := true, apart := false }
def ReleaseAgainSaid : Prop := releaseAgainRow.holds Tryz.pinned (OpenSpec.ofChange releaseAgainSpec)

/-- ITS FALSE NEIGHBOUR: 'it returns false'. Refute it at one input. -/
def releaseAgainWrong : ChangeSpec := { name := "releaseAgain", fn := fun _ => fun
  | [d1, d2, d3, d4] => { results := [.lit (.bool false)], args := [d1, d2, d3, d4] }
  | _ => none }
def ReleaseAgainWrongFalsely : Prop := releaseAgainRow.holds Tryz.pinned (OpenSpec.ofChange releaseAgainWrong)

/-- 'breadlinelaw13.ReleaseSteps': WHATEVER THE INPUT: true; the input reads as it did. -/
def releaseStepsSpec : ChangeSpec := { name := "releaseSteps", fn := fun _ => fun
  | [d1, d2, d3, d4] => { results := [.lit (.bool true)], args := [d1, d2, d3, d4] }
  | _ => none }
def releaseStepsRow : OpenClaim := { program := "ytjfjjmlocgmicaagreat", sum := "711c34eba728c21bb78e50b793c71ad27c63afd4d4171dd2a39da3f7cc90b5ef", func := "breadline/breadlinelaw13.ReleaseSteps", spec := "releaseSteps", unfollowed := true, recurses := true, apart := false }
def ReleaseStepsSaid : Prop := releaseStepsRow.holds Tryz.pinned (OpenSpec.ofChange releaseStepsSpec)

/-- ITS FALSE NEIGHBOUR: 'it returns false'. Refute it at one input. -/
def releaseStepsWrong : ChangeSpec := { name := "releaseSteps", fn := fun _ => fun
  | [d1, d2, d3, d4] => { results := [.lit (.bool false)], args := [d1, d2, d3, d4] }
  | _ => none }
def ReleaseStepsWrongFalsely : Prop := releaseStepsRow.holds Tryz.pinned (OpenSpec.ofChange releaseStepsWrong)

/-- 'breadlinelaw13.ReleaseAll': WHATEVER THE INPUT: true; the input reads as it did. -/
def releaseAllSpec : ChangeSpec := { name := "releaseAll", fn := fun _ => fun
  | [d1, d2, d3] => { results := [.lit (.bool true)], args := [d1, d2, d3] }
  | _ => none }
def releaseAllRow : OpenClaim := { program := "ytjfjjmlocgmicaagreat", sum := "711c34eba728c21bb78e50b793c71ad27c63afd4d4171dd2a39da3f7cc90b5ef", func := "breadline/breadlinelaw13.ReleaseAll", spec := "releaseAll", unfollowed := true, recurses := true, apart := false }
def ReleaseAllSaid : Prop := releaseAllRow.holds Tryz.pinned (OpenSpec.ofChange releaseAllSpec)

/-- ITS FALSE NEIGHBOUR: 'it returns false'. Refute it at one input. -/
def releaseAllWrong : ChangeSpec := { name := "releaseAll", fn := fun _ => fun
  | [d1, d2, d3] => { results := [.lit (.bool false)], args := [d1, d2, d3] }
  | _ => none }
def ReleaseAllWrongFalsely : Prop := releaseAllRow.holds Tryz.pinned (OpenSpec.ofChange releaseAllWrong)

/- THE SECOND FORM. 'bulk': how many values and letters a reading holds, each counted each time it is reached (what is shared counts as often as it is met; a slice's spare places count too). A statement '..UptoSaid' is the law's where the arguments, and the package variables that the reading takes, are together of bulk at most 1048576: NARROWER than '..Said'. Prove '..Said' where nothing that the law and all that it calls make is longer than what came in: it says more and counts as full. Else prove '..UptoSaid'. A law counts once. -/
mutual
def uptoBulk {H : Type} : DataW H → Nat
  | .lit (.string bytes) => bytes.length + 1
  | .lit _ => 1
  | .nil => 1
  | .ptr d => uptoBulk d + 1
  | .slice elems spare => uptoBulkAll elems + uptoBulkAll spare + 1
  | .agg parts => uptoBulkAll parts + 1
  | .iface _ d => uptoBulk d + 1
  | .map entries => uptoBulkEntries entries + 1
  | .held _ => 1
def uptoBulkAll {H : Type} : List (DataW H) → Nat
  | [] => 0
  | d :: r => uptoBulk d + uptoBulkAll r
def uptoBulkEntries {H : Type} : List (Lit × DataW H) → Nat
  | [] => 0
  | x :: r => uptoBulkEntry x + uptoBulkEntries r
def uptoBulkEntry {H : Type} : Lit × DataW H → Nat
  | (.string bytes, d) => bytes.length + uptoBulk d + 1
  | (_, d) => uptoBulk d + 1
 end
def uptoSmall : (H : Type) → List (DataW H) → Bool := fun _ ds => decide (uptoBulkAll ds ≤ 1048576)
def OpenSpec.upto (s : _root_.Go.ChangeSpec) : _root_.Go.OpenSpec := { _root_.Go.OpenSpec.ofChange s with cond := some uptoSmall }

/-- 'breadlinelaw13.ReleaseTells', WHERE WHAT IT READS IS OF BULK AT MOST 1048576: true; the input reads as it did. -/
def releaseTellsUptoRow : OpenClaim := { program := "ytjfjjmlocgmicaagreat", sum := "711c34eba728c21bb78e50b793c71ad27c63afd4d4171dd2a39da3f7cc90b5ef", func := "breadline/breadlinelaw13.ReleaseTells", spec := "releaseTells", unfollowed := true, recurses := true, apart := false, narrowed := true }
def ReleaseTellsUptoSaid : Prop := releaseTellsUptoRow.holds Tryz.pinned (OpenSpec.upto releaseTellsSpec)

/-- 'breadlinelaw13.ReleaseAlone', WHERE WHAT IT READS IS OF BULK AT MOST 1048576: true; the input reads as it did. -/
def releaseAloneUptoRow : OpenClaim := { program := "ytjfjjmlocgmicaagreat", sum := "711c34eba728c21bb78e50b793c71ad27c63afd4d4171dd2a39da3f7cc90b5ef", func := "breadline/breadlinelaw13.ReleaseAlone", spec := "releaseAlone", unfollowed := true, recurses := true, apart := false, narrowed := true }
def ReleaseAloneUptoSaid : Prop := releaseAloneUptoRow.holds Tryz.pinned (OpenSpec.upto releaseAloneSpec)

/-- 'breadlinelaw13.ReleaseOnce', WHERE WHAT IT READS IS OF BULK AT MOST 1048576: true; the input reads as it did. -/
def releaseOnceUptoRow : OpenClaim := { program := "ytjfjjmlocgmicaagreat", sum := "711c34eba728c21bb78e50b793c71ad27c63afd4d4171dd2a39da3f7cc90b5ef", func := "breadline/breadlinelaw13.ReleaseOnce", spec := "releaseOnce", unfollowed := true, recurses := true, apart := false, narrowed := true }
def ReleaseOnceUptoSaid : Prop := releaseOnceUptoRow.holds Tryz.pinned (OpenSpec.upto releaseOnceSpec)

/-- 'breadlinelaw13.ReleaseAgain', WHERE WHAT IT READS IS OF BULK AT MOST 1048576: true; the input reads as it did. -/
def releaseAgainUptoRow : OpenClaim := { program := "ytjfjjmlocgmicaagreat", sum := "711c34eba728c21bb78e50b793c71ad27c63afd4d4171dd2a39da3f7cc90b5ef", func := "breadline/breadlinelaw13.ReleaseAgain", spec := "releaseAgain", unfollowed := true, recurses := true, apart := false, narrowed := true }
def ReleaseAgainUptoSaid : Prop := releaseAgainUptoRow.holds Tryz.pinned (OpenSpec.upto releaseAgainSpec)

/-- 'breadlinelaw13.ReleaseSteps', WHERE WHAT IT READS IS OF BULK AT MOST 1048576: true; the input reads as it did. -/
def releaseStepsUptoRow : OpenClaim := { program := "ytjfjjmlocgmicaagreat", sum := "711c34eba728c21bb78e50b793c71ad27c63afd4d4171dd2a39da3f7cc90b5ef", func := "breadline/breadlinelaw13.ReleaseSteps", spec := "releaseSteps", unfollowed := true, recurses := true, apart := false, narrowed := true }
def ReleaseStepsUptoSaid : Prop := releaseStepsUptoRow.holds Tryz.pinned (OpenSpec.upto releaseStepsSpec)

/-- 'breadlinelaw13.ReleaseAll', WHERE WHAT IT READS IS OF BULK AT MOST 1048576: true; the input reads as it did. -/
def releaseAllUptoRow : OpenClaim := { program := "ytjfjjmlocgmicaagreat", sum := "711c34eba728c21bb78e50b793c71ad27c63afd4d4171dd2a39da3f7cc90b5ef", func := "breadline/breadlinelaw13.ReleaseAll", spec := "releaseAll", unfollowed := true, recurses := true, apart := false, narrowed := true }
def ReleaseAllUptoSaid : Prop := releaseAllUptoRow.holds Tryz.pinned (OpenSpec.upto releaseAllSpec)

end Rows
end Go.Proofs.YtjfjjmlocgmicaaGreat
