/- Small equations that many texts use. No program in it. -/
import Derived.WalkKit
import Derived.ProofKit
namespace Go.Proofs.Ytljimbkafijnnaa
open Go.RowKit
theorem ret_int {k : IntKind} {a b : Int} (h : a = b) : Ending.returned (.int k a) = .returned (.int k b) := by rw [h]
theorem beq_f {a b : Int} (h : a ≠ b) : (a == b) = false := by simp [h]
theorem beq_t {a b : Int} (h : a = b) : (a == b) = true := by simp [h]
end Go.Proofs.Ytljimbkafijnnaa
