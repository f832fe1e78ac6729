/-
  No cell of these rows narrows 'for every input' (looked for: loops, veiled, ifaces, maps, wideKeys, modest, calm, conditions, laid).
  DERIVED. THE GIVEN ROWS OF THIS SEAT. 6 by the template 'for every input the law returns true; each argument reads behind the call as it read before'; 0 by the template 'total and deterministic' (their statements: YtlgobicbclihfaaTotals.lean).
  GIVEN WITH THE SEED: the statements are not yours to turn. If you find one false, say at which input.
  Laid BY PROGRAM, IN A SANDBOX (cutbox-rows.mjs): the forced cells as the released guide's own fill.sh prints them over the translation 3f621dc93fc5367e… (all of the seat's roots in one cut). By AI agents, Wed Nov 11 2026. No macro, syntax, notation, axiom, sorry.
-/
import Derived.Test.YtlgobicbclihfaaChecked
import GoSem.Claim
import GoSem.ClaimJoined
import GoSem.ClaimMapViews
import Derived.JoinedTies
import Derived.KernelRfl
namespace Go.Proofs.Ytlgobicbclihfaa
/- THE CELL 'sum', in the pinned program and in every row, IS THE sha256 OF THE DUMP (.gsa) THAT YtlgobicbclihfaaProg.lean LOADS. Nothing in Lean hashes anything: it is a label: what it is worth is what the hold of that sum in a sandbox is worth. -/
noncomputable def Try.pinned : Pinned := { name := "ytlgobicbclihfaa", sum := "3f621dc93fc5367eaf0f44367b707d6f4a28b61abb7bd9daac68859caebedaef", checked := Try.checked }
namespace Rows
def none {H : Type} : Left H := { results := [], args := [] }

/-- 'breadlinelaw03.MemTells': WHATEVER THE INPUT: true; the input reads as it did. -/
def memTellsSpec : ChangeSpec := { name := "memTells", fn := fun _ => fun
  | [d1, d2] => { results := [.lit (.bool true)], args := [d1, d2] }
  | _ => none }
def memTellsRow : OpenClaim := { program := "ytlgobicbclihfaa", sum := "3f621dc93fc5367eaf0f44367b707d6f4a28b61abb7bd9daac68859caebedaef", func := "breadline/breadlinelaw03.MemTells", spec := "memTells", unfollowed := true, recurses := true, apart := false }
def MemTellsSaid : Prop := memTellsRow.holds Try.pinned (OpenSpec.ofChange memTellsSpec)

/-- ITS FALSE NEIGHBOUR: 'it returns false'. Refute it at one input. -/
def memTellsWrong : ChangeSpec := { name := "memTells", fn := fun _ => fun
  | [d1, d2] => { results := [.lit (.bool false)], args := [d1, d2] }
  | _ => none }
def MemTellsWrongFalsely : Prop := memTellsRow.holds Try.pinned (OpenSpec.ofChange memTellsWrong)

/-- 'breadlinelaw03.MemOne': WHATEVER THE INPUT: true; the input reads as it did. -/
def memOneSpec : ChangeSpec := { name := "memOne", fn := fun _ => fun
  | [d1, d2] => { results := [.lit (.bool true)], args := [d1, d2] }
  | _ => none }
def memOneRow : OpenClaim := { program := "ytlgobicbclihfaa", sum := "3f621dc93fc5367eaf0f44367b707d6f4a28b61abb7bd9daac68859caebedaef", func := "breadline/breadlinelaw03.MemOne", spec := "memOne", unfollowed := true, recurses := true, apart := false }
def MemOneSaid : Prop := memOneRow.holds Try.pinned (OpenSpec.ofChange memOneSpec)

/-- ITS FALSE NEIGHBOUR: 'it returns false'. Refute it at one input. -/
def memOneWrong : ChangeSpec := { name := "memOne", fn := fun _ => fun
  | [d1, d2] => { results := [.lit (.bool false)], args := [d1, d2] }
  | _ => none }
def MemOneWrongFalsely : Prop := memOneRow.holds Try.pinned (OpenSpec.ofChange memOneWrong)

/-- 'breadlinelaw03.MemLog': WHATEVER THE INPUT: true; the input reads as it did. -/
def memLogSpec : ChangeSpec := { name := "memLog", fn := fun _ => fun
  | [d1, d2] => { results := [.lit (.bool true)], args := [d1, d2] }
  | _ => none }
def memLogRow : OpenClaim := { program := "ytlgobicbclihfaa", sum := "3f621dc93fc5367eaf0f44367b707d6f4a28b61abb7bd9daac68859caebedaef", func := "breadline/breadlinelaw03.MemLog", spec := "memLog", unfollowed := true, recurses := true, apart := false }
def MemLogSaid : Prop := memLogRow.holds Try.pinned (OpenSpec.ofChange memLogSpec)

/-- ITS FALSE NEIGHBOUR: 'it returns false'. Refute it at one input. -/
def memLogWrong : ChangeSpec := { name := "memLog", fn := fun _ => fun
  | [d1, d2] => { results := [.lit (.bool false)], args := [d1, d2] }
  | _ => none }
def MemLogWrongFalsely : Prop := memLogRow.holds Try.pinned (OpenSpec.ofChange memLogWrong)

/-- 'breadlinelaw03.MemPlay': WHATEVER THE INPUT: true; the input reads as it did. -/
def memPlaySpec : ChangeSpec := { name := "memPlay", fn := fun _ => fun
  | [d1, d2, d3] => { results := [.lit (.bool true)], args := [d1, d2, d3] }
  | _ => none }
def memPlayRow : OpenClaim := { program := "ytlgobicbclihfaa", sum := "3f621dc93fc5367eaf0f44367b707d6f4a28b61abb7bd9daac68859caebedaef", func := "breadline/breadlinelaw03.MemPlay", spec := "memPlay", unfollowed := true, recurses := true, apart := false }
def MemPlaySaid : Prop := memPlayRow.holds Try.pinned (OpenSpec.ofChange memPlaySpec)

/-- ITS FALSE NEIGHBOUR: 'it returns false'. Refute it at one input. -/
def memPlayWrong : ChangeSpec := { name := "memPlay", fn := fun _ => fun
  | [d1, d2, d3] => { results := [.lit (.bool false)], args := [d1, d2, d3] }
  | _ => none }
def MemPlayWrongFalsely : Prop := memPlayRow.holds Try.pinned (OpenSpec.ofChange memPlayWrong)

/-- 'breadlinelaw03.MemApart': WHATEVER THE INPUT: true; the input reads as it did. -/
def memApartSpec : ChangeSpec := { name := "memApart", fn := fun _ => fun
  | [d1, d2] => { results := [.lit (.bool true)], args := [d1, d2] }
  | _ => none }
def memApartRow : OpenClaim := { program := "ytlgobicbclihfaa", sum := "3f621dc93fc5367eaf0f44367b707d6f4a28b61abb7bd9daac68859caebedaef", func := "breadline/breadlinelaw03.MemApart", spec := "memApart", unfollowed := true, recurses := true, apart := false }
def MemApartSaid : Prop := memApartRow.holds Try.pinned (OpenSpec.ofChange memApartSpec)

/-- ITS FALSE NEIGHBOUR: 'it returns false'. Refute it at one input. -/
def memApartWrong : ChangeSpec := { name := "memApart", fn := fun _ => fun
  | [d1, d2] => { results := [.lit (.bool false)], args := [d1, d2] }
  | _ => none }
def MemApartWrongFalsely : Prop := memApartRow.holds Try.pinned (OpenSpec.ofChange memApartWrong)

/-- 'breadlinelaw03.MemCas': WHATEVER THE INPUT: true; the input reads as it did. -/
def memCasSpec : ChangeSpec := { name := "memCas", fn := fun _ => fun
  | [d1, d2] => { results := [.lit (.bool true)], args := [d1, d2] }
  | _ => none }
def memCasRow : OpenClaim := { program := "ytlgobicbclihfaa", sum := "3f621dc93fc5367eaf0f44367b707d6f4a28b61abb7bd9daac68859caebedaef", func := "breadline/breadlinelaw03.MemCas", spec := "memCas", unfollowed := true, recurses := true, apart := false }
def MemCasSaid : Prop := memCasRow.holds Try.pinned (OpenSpec.ofChange memCasSpec)

/-- ITS FALSE NEIGHBOUR: 'it returns false'. Refute it at one input. -/
def memCasWrong : ChangeSpec := { name := "memCas", fn := fun _ => fun
  | [d1, d2] => { results := [.lit (.bool false)], args := [d1, d2] }
  | _ => none }
def MemCasWrongFalsely : Prop := memCasRow.holds Try.pinned (OpenSpec.ofChange memCasWrong)

/- THE SECOND FORM. 'bulk': how many values and letters a reading holds, each counted each time it is reached (what is shared counts as often as it is met; a slice's spare places count too). A statement '..UptoSaid' is the law's where the arguments, and the package variables that the reading takes, are together of bulk at most 1048576: NARROWER than '..Said'. Prove '..Said' where nothing that the law and all that it calls make is longer than what came in: it says more and counts as full. Else prove '..UptoSaid'. A law counts once. -/
mutual
def uptoBulk {H : Type} : DataW H → Nat
  | .lit (.string bytes) => bytes.length + 1
  | .lit _ => 1
  | .nil => 1
  | .ptr d => uptoBulk d + 1
  | .slice elems spare => uptoBulkAll elems + uptoBulkAll spare + 1
  | .agg parts => uptoBulkAll parts + 1
  | .iface _ d => uptoBulk d + 1
  | .map entries => uptoBulkEntries entries + 1
  | .held _ => 1
def uptoBulkAll {H : Type} : List (DataW H) → Nat
  | [] => 0
  | d :: r => uptoBulk d + uptoBulkAll r
def uptoBulkEntries {H : Type} : List (Lit × DataW H) → Nat
  | [] => 0
  | x :: r => uptoBulkEntry x + uptoBulkEntries r
def uptoBulkEntry {H : Type} : Lit × DataW H → Nat
  | (.string bytes, d) => bytes.length + uptoBulk d + 1
  | (_, d) => uptoBulk d + 1
 end
def uptoSmall : (H : Type) → List (DataW H) → Bool := fun _ ds => decide (uptoBulkAll ds ≤ 1048576)
def OpenSpec.upto (s : _root_.Go.ChangeSpec) : _root_.Go.OpenSpec := { _root_.Go.OpenSpec.ofChange s with cond := some uptoSmall }

/-- 'breadlinelaw03.MemTells', WHERE WHAT IT READS IS OF BULK AT MOST 1048576: true; the input reads as it did. -/
def memTellsUptoRow : OpenClaim := { program := "ytlgobicbclihfaa", sum := "3f621dc93fc5367eaf0f44367b707d6f4a28b61abb7bd9daac68859caebedaef", func := "breadline/breadlinelaw03.MemTells", spec := "memTells", unfollowed := true, recurses := true, apart := false, narrowed := true }
def MemTellsUptoSaid : Prop := memTellsUptoRow.holds Try.pinned (OpenSpec.upto memTellsSpec)

/-- 'breadlinelaw03.MemOne', WHERE WHAT IT READS IS OF BULK AT MOST 1048576: true; the input reads as it did. -/
def memOneUptoRow : OpenClaim := { program := "ytlgobicbclihfaa", sum := "3f621dc93fc5367eaf0f44367b707d6f4a28b61abb7bd9daac68859caebedaef", func := "breadline/breadlinelaw03.MemOne", spec := "memOne", unfollowed := true, recurses := true, apart := false, narrowed := true }
def MemOneUptoSaid : Prop := memOneUptoRow.holds Try.pinned (OpenSpec.upto memOneSpec)

/-- 'breadlinelaw03.MemLog', WHERE WHAT IT READS IS OF BULK AT MOST 1048576: true; the input reads as it did. -/
def memLogUptoRow : OpenClaim := { program := "ytlgobicbclihfaa", sum := "3f621dc93fc5367eaf0f44367b707d6f4a28b61abb7bd9daac68859caebedaef", func := "breadline/breadlinelaw03.MemLog", spec := "memLog", unfollowed := true, recurses := true, apart := false, narrowed := true }
def MemLogUptoSaid : Prop := memLogUptoRow.holds Try.pinned (OpenSpec.upto memLogSpec)

/-- 'breadlinelaw03.MemPlay', WHERE WHAT IT READS IS OF BULK AT MOST 1048576: true; the input reads as it did. -/
def memPlayUptoRow : OpenClaim := { program := "ytlgobicbclihfaa", sum := "3f621dc93fc5367eaf0f44367b707d6f4a28b61abb7bd9daac68859caebedaef", func := "breadline/breadlinelaw03.MemPlay", spec := "memPlay", unfollowed := true, recurses := true, apart := false, narrowed := true }
def MemPlayUptoSaid : Prop := memPlayUptoRow.holds Try.pinned (OpenSpec.upto memPlaySpec)

/-- 'breadlinelaw03.MemApart', WHERE WHAT IT READS IS OF BULK AT MOST 1048576: true; the input reads as it did. -/
def memApartUptoRow : OpenClaim := { program := "ytlgobicbclihfaa", sum := "3f621dc93fc5367eaf0f44367b707d6f4a28b61abb7bd9daac68859caebedaef", func := "breadline/breadlinelaw03.MemApart", spec := "memApart", unfollowed := true, recurses := true, apart := false, narrowed := true }
def MemApartUptoSaid : Prop := memApartUptoRow.holds Try.pinned (OpenSpec.upto memApartSpec)

/-- 'breadlinelaw03.MemCas', WHERE WHAT IT READS IS OF BULK AT MOST 1048576: true; the input reads as it did. -/
def memCasUptoRow : OpenClaim := { program := "ytlgobicbclihfaa", sum := "3f621dc93fc5367eaf0f44367b707d6f4a28b61abb7bd9daac68859caebedaef", func := "breadline/breadlinelaw03.MemCas", spec := "memCas", unfollowed := true, recurses := true, apart := false, narrowed := true }
def MemCasUptoSaid : Prop := memCasUptoRow.holds Try.pinned (OpenSpec.upto memCasSpec)

end Rows
end Go.Proofs.Ytlgobicbclihfaa
