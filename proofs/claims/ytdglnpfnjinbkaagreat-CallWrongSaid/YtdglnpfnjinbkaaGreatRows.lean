/-
  No cell of these rows narrows 'for every input' (looked for: loops, veiled, ifaces, maps, wideKeys, modest, calm, conditions, laid).
  DERIVED. THE GIVEN ROWS OF THIS SEAT. 6 by the template 'for every input the law returns true; each argument reads behind the call as it read before'; 0 by the template 'total and deterministic' (their statements: YtdglnpfnjinbkaaGreatTotals.lean).
  GIVEN WITH THE SEED: the statements are not yours to turn. If you find one false, say at which input.
  Laid BY PROGRAM, IN A SANDBOX (cutbox-rows.mjs): the forced cells as the released guide's own fill.sh prints them over the translation 45cc712ce3d2becc… (all of the seat's roots in one cut). By AI agents, Wed Nov 11 2026. No macro, syntax, notation, axiom, sorry.
-/
import Derived.Test.YtdglnpfnjinbkaaGreatChecked
import GoSem.Claim
import GoSem.ClaimJoined
import GoSem.ClaimMapViews
import Derived.JoinedTies
import Derived.KernelRfl
namespace Go.Proofs.YtdglnpfnjinbkaaGreat
/- THE CELL 'sum', in the pinned program and in every row, IS THE sha256 OF THE DUMP (.gsa) THAT YtdglnpfnjinbkaaGreatProg.lean LOADS. Nothing in Lean hashes anything: it is a label: what it is worth is what the hold of that sum in a sandbox is worth. -/
noncomputable def Tryz.pinned : Pinned := { name := "ytdglnpfnjinbkaagreat", sum := "45cc712ce3d2becce18a7c4e5a3791eba2455da3122d78b29249969a68af1c44", checked := Tryz.checked }
namespace Rows
def none {H : Type} : Left H := { results := [], args := [] }

/-- 'breadlinelaw15.CallTells': WHATEVER THE INPUT: true; the input reads as it did. -/
def callTellsSpec : ChangeSpec := { name := "callTells", fn := fun _ => fun
  | [d1, d2, d3] => { results := [.lit (.bool true)], args := [d1, d2, d3] }
  | _ => none }
def callTellsRow : OpenClaim := { program := "ytdglnpfnjinbkaagreat", sum := "45cc712ce3d2becce18a7c4e5a3791eba2455da3122d78b29249969a68af1c44", func := "breadline/breadlinelaw15.CallTells", spec := "callTells", unfollowed := true, recurses := true, apart := false }
def CallTellsSaid : Prop := callTellsRow.holds Tryz.pinned (OpenSpec.ofChange callTellsSpec)

/-- ITS FALSE NEIGHBOUR: 'it returns false'. Refute it at one input. -/
def callTellsWrong : ChangeSpec := { name := "callTells", fn := fun _ => fun
  | [d1, d2, d3] => { results := [.lit (.bool false)], args := [d1, d2, d3] }
  | _ => none }
def CallTellsWrongFalsely : Prop := callTellsRow.holds Tryz.pinned (OpenSpec.ofChange callTellsWrong)

/-- 'breadlinelaw15.CallUsage': WHATEVER THE INPUT: true; the input reads as it did. -/
def callUsageSpec : ChangeSpec := { name := "callUsage", fn := fun _ => fun
  | [d1, d2] => { results := [.lit (.bool true)], args := [d1, d2] }
  | _ => none }
def callUsageRow : OpenClaim := { program := "ytdglnpfnjinbkaagreat", sum := "45cc712ce3d2becce18a7c4e5a3791eba2455da3122d78b29249969a68af1c44", func := "breadline/breadlinelaw15.CallUsage", spec := "callUsage", unfollowed := true, recurses := true, apart := false }
def CallUsageSaid : Prop := callUsageRow.holds Tryz.pinned (OpenSpec.ofChange callUsageSpec)

/-- ITS FALSE NEIGHBOUR: 'it returns false'. Refute it at one input. -/
def callUsageWrong : ChangeSpec := { name := "callUsage", fn := fun _ => fun
  | [d1, d2] => { results := [.lit (.bool false)], args := [d1, d2] }
  | _ => none }
def CallUsageWrongFalsely : Prop := callUsageRow.holds Tryz.pinned (OpenSpec.ofChange callUsageWrong)

/-- 'breadlinelaw15.CallBack': WHATEVER THE INPUT: true; the input reads as it did. -/
def callBackSpec : ChangeSpec := { name := "callBack", fn := fun _ => fun
  | [d1, d2, d3, d4] => { results := [.lit (.bool true)], args := [d1, d2, d3, d4] }
  | _ => none }
def callBackRow : OpenClaim := { program := "ytdglnpfnjinbkaagreat", sum := "45cc712ce3d2becce18a7c4e5a3791eba2455da3122d78b29249969a68af1c44", func := "breadline/breadlinelaw15.CallBack", spec := "callBack", unfollowed := true, recurses := true, apart := false }
def CallBackSaid : Prop := callBackRow.holds Tryz.pinned (OpenSpec.ofChange callBackSpec)

/-- ITS FALSE NEIGHBOUR: 'it returns false'. Refute it at one input. -/
def callBackWrong : ChangeSpec := { name := "callBack", fn := fun _ => fun
  | [d1, d2, d3, d4] => { results := [.lit (.bool false)], args := [d1, d2, d3, d4] }
  | _ => none }
def CallBackWrongFalsely : Prop := callBackRow.holds Tryz.pinned (OpenSpec.ofChange callBackWrong)

/-- 'breadlinelaw15.CallWrong': WHATEVER THE INPUT: true; the input reads as it did. -/
def callWrongSpec : ChangeSpec := { name := "callWrong", fn := fun _ => fun
  | [d1, d2, d3, d4, d5] => { results := [.lit (.bool true)], args := [d1, d2, d3, d4, d5] }
  | _ => none }
def callWrongRow : OpenClaim := { program := "ytdglnpfnjinbkaagreat", sum := "45cc712ce3d2becce18a7c4e5a3791eba2455da3122d78b29249969a68af1c44", func := "breadline/breadlinelaw15.CallWrong", spec := "callWrong", unfollowed := true, recurses := true, apart := false }
def CallWrongSaid : Prop := callWrongRow.holds Tryz.pinned (OpenSpec.ofChange callWrongSpec)

/-- ITS FALSE NEIGHBOUR: 'it returns false'. Refute it at one input. -/
def callWrongWrong : ChangeSpec := { name := "callWrong", fn := fun _ => fun
  | [d1, d2, d3, d4, d5] => { results := [.lit (.bool false)], args := [d1, d2, d3, d4, d5] }
  | _ => none }
def CallWrongWrongFalsely : Prop := callWrongRow.holds Tryz.pinned (OpenSpec.ofChange callWrongWrong)

/-- 'breadlinelaw15.CallLimits': WHATEVER THE INPUT: true; the input reads as it did. -/
def callLimitsSpec : ChangeSpec := { name := "callLimits", fn := fun _ => fun
  | [d1, d2] => { results := [.lit (.bool true)], args := [d1, d2] }
  | _ => none }
def callLimitsRow : OpenClaim := { program := "ytdglnpfnjinbkaagreat", sum := "45cc712ce3d2becce18a7c4e5a3791eba2455da3122d78b29249969a68af1c44", func := "breadline/breadlinelaw15.CallLimits", spec := "callLimits", unfollowed := true, recurses := true, apart := false }
def CallLimitsSaid : Prop := callLimitsRow.holds Tryz.pinned (OpenSpec.ofChange callLimitsSpec)

/-- ITS FALSE NEIGHBOUR: 'it returns false'. Refute it at one input. -/
def callLimitsWrong : ChangeSpec := { name := "callLimits", fn := fun _ => fun
  | [d1, d2] => { results := [.lit (.bool false)], args := [d1, d2] }
  | _ => none }
def CallLimitsWrongFalsely : Prop := callLimitsRow.holds Tryz.pinned (OpenSpec.ofChange callLimitsWrong)

/-- 'breadlinelaw15.CallReads': WHATEVER THE INPUT: true; the input reads as it did. -/
def callReadsSpec : ChangeSpec := { name := "callReads", fn := fun _ => fun
  | [d1, d2, d3] => { results := [.lit (.bool true)], args := [d1, d2, d3] }
  | _ => none }
def callReadsRow : OpenClaim := { program := "ytdglnpfnjinbkaagreat", sum := "45cc712ce3d2becce18a7c4e5a3791eba2455da3122d78b29249969a68af1c44", func := "breadline/breadlinelaw15.CallReads", spec := "callReads", unfollowed := true, recurses := true, apart := false }
def CallReadsSaid : Prop := callReadsRow.holds Tryz.pinned (OpenSpec.ofChange callReadsSpec)

/-- ITS FALSE NEIGHBOUR: 'it returns false'. Refute it at one input. -/
def callReadsWrong : ChangeSpec := { name := "callReads", fn := fun _ => fun
  | [d1, d2, d3] => { results := [.lit (.bool false)], args := [d1, d2, d3] }
  | _ => none }
def CallReadsWrongFalsely : Prop := callReadsRow.holds Tryz.pinned (OpenSpec.ofChange callReadsWrong)

/- THE SECOND FORM. 'bulk': how many values and letters a reading holds, each counted each time it is reached (what is shared counts as often as it is met; a slice's spare places count too). A statement '..UptoSaid' is the law's where the arguments, and the package variables that the reading takes, are together of bulk at most 1048576: NARROWER than '..Said'. Prove '..Said' where nothing that the law and all that it calls make is longer than what came in: it says more and counts as full. Else prove '..UptoSaid'. A law counts once. -/
mutual
def uptoBulk {H : Type} : DataW H → Nat
  | .lit (.string bytes) => bytes.length + 1
  | .lit _ => 1
  | .nil => 1
  | .ptr d => uptoBulk d + 1
  | .slice elems spare => uptoBulkAll elems + uptoBulkAll spare + 1
  | .agg parts => uptoBulkAll parts + 1
  | .iface _ d => uptoBulk d + 1
  | .map entries => uptoBulkEntries entries + 1
  | .held _ => 1
def uptoBulkAll {H : Type} : List (DataW H) → Nat
  | [] => 0
  | d :: r => uptoBulk d + uptoBulkAll r
def uptoBulkEntries {H : Type} : List (Lit × DataW H) → Nat
  | [] => 0
  | x :: r => uptoBulkEntry x + uptoBulkEntries r
def uptoBulkEntry {H : Type} : Lit × DataW H → Nat
  | (.string bytes, d) => bytes.length + uptoBulk d + 1
  | (_, d) => uptoBulk d + 1
 end
def uptoSmall : (H : Type) → List (DataW H) → Bool := fun _ ds => decide (uptoBulkAll ds ≤ 1048576)
def OpenSpec.upto (s : _root_.Go.ChangeSpec) : _root_.Go.OpenSpec := { _root_.Go.OpenSpec.ofChange s with cond := some uptoSmall }

/-- 'breadlinelaw15.CallTells', WHERE WHAT IT READS IS OF BULK AT MOST 1048576: true; the input reads as it did. -/
def callTellsUptoRow : OpenClaim := { program := "ytdglnpfnjinbkaagreat", sum := "45cc712ce3d2becce18a7c4e5a3791eba2455da3122d78b29249969a68af1c44", func := "breadline/breadlinelaw15.CallTells", spec := "callTells", unfollowed := true, recurses := true, apart := false, narrowed := true }
def CallTellsUptoSaid : Prop := callTellsUptoRow.holds Tryz.pinned (OpenSpec.upto callTellsSpec)

/-- 'breadlinelaw15.CallUsage', WHERE WHAT IT READS IS OF BULK AT MOST 1048576: true; the input reads as it did. -/
def callUsageUptoRow : OpenClaim := { program := "ytdglnpfnjinbkaagreat", sum := "45cc712ce3d2becce18a7c4e5a3791eba2455da3122d78b29249969a68af1c44", func := "breadline/breadlinelaw15.CallUsage", spec := "callUsage", unfollowed := true, recurses := true, apart := false, narrowed := true }
def CallUsageUptoSaid : Prop := callUsageUptoRow.holds Tryz.pinned (OpenSpec.upto callUsageSpec)

/-- 'breadlinelaw15.CallBack', WHERE WHAT IT READS IS OF BULK AT MOST 1048576: true; the input reads as it did. -/
def callBackUptoRow : OpenClaim := { program := "ytdglnpfnjinbkaagreat", sum := "45cc712ce3d2becce18a7c4e5a3791eba2455da3122d78b29249969a68af1c44", func := "breadline/breadlinelaw15.CallBack", spec := "callBack", unfollowed := true, recurses := true, apart := false, narrowed := true }
def CallBackUptoSaid : Prop := callBackUptoRow.holds Tryz.pinned (OpenSpec.upto callBackSpec)

/-- 'breadlinelaw15.CallWrong', WHERE WHAT IT READS IS OF BULK AT MOST 1048576: true; the input reads as it did. -/
def callWrongUptoRow : OpenClaim := { program := "ytdglnpfnjinbkaagreat", sum := "45cc712ce3d2becce18a7c4e5a3791eba2455da3122d78b29249969a68af1c44", func := "breadline/breadlinelaw15.CallWrong", spec := "callWrong", unfollowed := true, recurses := true, apart := false, narrowed := true }
def CallWrongUptoSaid : Prop := callWrongUptoRow.holds Tryz.pinned (OpenSpec.upto callWrongSpec)

/-- 'breadlinelaw15.CallLimits', WHERE WHAT IT READS IS OF BULK AT MOST 1048576: true; the input reads as it did. -/
def callLimitsUptoRow : OpenClaim := { program := "ytdglnpfnjinbkaagreat", sum := "45cc712ce3d2becce18a7c4e5a3791eba2455da3122d78b29249969a68af1c44", func := "breadline/breadlinelaw15.CallLimits", spec := "callLimits", unfollowed := true, recurses := true, apart := false, narrowed := true }
def CallLimitsUptoSaid : Prop := callLimitsUptoRow.holds Tryz.pinned (OpenSpec.upto callLimitsSpec)

/-- 'breadlinelaw15.CallReads', WHERE WHAT IT READS IS OF BULK AT MOST 1048576: true; the input reads as it did. -/
def callReadsUptoRow : OpenClaim := { program := "ytdglnpfnjinbkaagreat", sum := "45cc712ce3d2becce18a7c4e5a3791eba2455da3122d78b29249969a68af1c44", func := "breadline/breadlinelaw15.CallReads", spec := "callReads", unfollowed := true, recurses := true, apart := false, narrowed := true }
def CallReadsUptoSaid : Prop := callReadsUptoRow.holds Tryz.pinned (OpenSpec.upto callReadsSpec)

end Rows
end Go.Proofs.YtdglnpfnjinbkaaGreat
