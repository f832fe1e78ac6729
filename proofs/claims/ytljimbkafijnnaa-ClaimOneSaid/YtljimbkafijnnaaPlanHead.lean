/- What every law of layer 5 begins with: the live question, and whether a setting is good. -/
import Derived.Test.YtljimbkafijnnaaPlanRef
import Derived.Test.YtljimbkafijnnaaConfRef
import Derived.Test.YtljimbkafijnnaaTreeLaw
namespace Go.Proofs.Ytljimbkafijnnaa
open Go.ChangeShapes Go.WideShapes Go.ChangeAt Go.RowKit Go.Shelf
set_option linter.unusedVariables false
variable {w0 w w' W : World} {F0 : Nat → Prop} {L : List Asn} {b : Nat} {c : Cf} {pp pl : Option Addr} {np nl cp cl : Nat} {vp vl : Value}
def baseW : List Int := [20, 20, 0, 0, 0, 0, 0, 1, 0, 0, 10, 10, 0, 0, 0, 0, 0, 1, 0, 0, 8, 8, 0, 0, 0, 0, 0, 1, 0, 0, 5, 5, 0, 0, 0, 0, 0, 1, 0, 0, 0, 0, 0, 0, 0, 0]
theorem base_fresh : freshW baseC 4 = baseW := by decide +kernel
theorem IntsAt.cell {k : IntKind} {b off n cap : Nat} {zs : List Int} (h : IntsAt w k (.slice (some ⟨b, off, none⟩) n cap) zs) (j : Nat) (hj : j < zs.length) : w.cell? ⟨b, off + j, none⟩ = some (.int k (zs.getD j 0)) := by
  obtain ⟨b', off', cap', he, hc⟩ := h.at (by omega)
  injection he with he1 he2 he3
  injection he1 with he1
  injection he1 with he4 he5 he6
  subst he4 he5
  exact hc j hj
/-- What the live question's chain reads. -/
theorem head5_cells {g k gw off cap : Nat} (h : Own w0 F0 (row (.slice (some ⟨gw, off, none⟩) 46 cap) 3 1 46 (intC baseW) :: headL b g k L) w) : (w.cell? ⟨b, 0, none⟩ = some (.int .i64 baseC.th) ∧ w.cell? ⟨b, 1, none⟩ = some (.int .i64 baseC.st) ∧ w.cell? ⟨b, 2, none⟩ = some (.int .i64 baseC.ga) ∧ w.cell? ⟨b, 3, none⟩ = some (.int .i64 baseC.le) ∧ w.cell? ⟨b, 4, none⟩ = some (.int .i64 baseC.re) ∧ w.cell? ⟨b, 5, none⟩ = some (.int .i64 baseC.ti) ∧ w.cell? ⟨b, 6, none⟩ = some (rowAt g 4) ∧ w.cell? ⟨b, 7, none⟩ = some (rowAt k 4)) ∧ w.cell? ⟨gw, off, none⟩ = some (.int .i64 20) ∧ w.cell? ⟨gw, off + 1, none⟩ = some (.int .i64 20) ∧ w.cell? ⟨gw, off + 7, none⟩ = some (.int .i64 1) ∧ w.cell? ⟨gw, off + 4, none⟩ = some (.int .i64 0) ∧ w.cell? ⟨gw, off + 45, none⟩ = some (.int .i64 0) := by
  have hI : IntsAt w .i64 (.slice (some ⟨gw, off, none⟩) 46 cap) baseW := Own.intsAt (zs := baseW) h
  exact ⟨conf_cells h.swap, hI.cell 0 (by decide), hI.cell 1 (by decide), hI.cell 7 (by decide), hI.cell 4 (by decide), hI.cell 45 (by decide)⟩
end Go.Proofs.Ytljimbkafijnnaa
