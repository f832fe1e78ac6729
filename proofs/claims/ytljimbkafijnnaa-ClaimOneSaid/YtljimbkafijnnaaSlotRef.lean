/- The document's answers of layer 10. -/
import Derived.Test.YtljimbkafijnnaaSlotMath
import Derived.Test.YtljimbkafijnnaaPackRef
import Derived.OwnWalk
namespace Go.Proofs.Ytljimbkafijnnaa
open Go.ChangeShapes Go.WideShapes Go.ChangeAt Go.RowKit
set_option linter.unusedVariables false
theorem rState_any (a : Int) (la : W64 a) (w : World) :
    Calls Try.prog 26 #[.int .i64 a] w fun e w' => e = .returned (.int .i64 (stS a)) ∧ Below w.heap.size w w' := by
  have hb := pval_bd a
  by_cases h : 0 ≤ pval a ∧ pval a ≤ 3
  · rw [show stS a = pval a from if_pos h]
    obtain ⟨h0, h1⟩ := h
    go_enter Try.func26, Try.ntmps26
    go_wp2_with fail
    refine (rValue_any a la.1 la.2 _).mono ?_
    rintro e w' ⟨rfl, rfl⟩
    go_wp2_with fail
    go_ret
    exact ⟨rfl, Below.refl _ _⟩
  · rw [show stS a = -1 from if_neg h]
    have hc : pval a < 0 ∨ (0 ≤ pval a ∧ 3 < pval a) := by omega
    clear h
    rcases hc with hc | ⟨hc, hd⟩
    all_goals
      go_enter Try.func26, Try.ntmps26
      go_wp2_with fail
      refine (rValue_any a la.1 la.2 _).mono ?_
      rintro e w' ⟨rfl, rfl⟩
      go_wp2_with fail
      go_ret
      exact ⟨rfl, Below.refl _ _⟩
theorem rTurn_any (a s : Int) (la : W64 a) (ls : W64 s) (w : World) :
    Calls Try.prog 72 #[.int .i64 a, .int .i64 s] w fun e w' => e = .returned (.tuple #[.int .i64 (tnV a s), .bool (tnB s)]) ∧ Below w.heap.size w w' := by
  by_cases h : 0 ≤ s ∧ s ≤ 3
  · have hB : tnB s = true := decide_eq_true h
    rw [show tnV a s = tnW a s from if_pos hB, hB]
    obtain ⟨h0, h1⟩ := h
    have HN := Lib.hid (rNext_yes a s (by omega) (by omega) la.1 la.2)
    unfold tnW
    clear la ls hB
    go_enter Try.func72, Try.ntmps72
    go_wp2_with fail
    refine (HN.out _).mono ?_
    rintro e w' ⟨rfl, rfl⟩
    go_wp2_with fail
    go_ret2
    exact ⟨rfl, Below.refl _ _⟩
  · have hB : tnB s = false := decide_eq_false h
    rw [show tnV a s = 0 from if_neg (by rw [hB]; decide), hB]
    have hc : s < 0 ∨ (0 ≤ s ∧ 3 < s) := by omega
    clear h hB
    rcases hc with hc | ⟨hc, hd⟩
    all_goals
      go_enter Try.func72, Try.ntmps72
      go_wp2_with fail
      go_ret2
      exact ⟨rfl, Below.refl _ _⟩
end Go.Proofs.Ytljimbkafijnnaa
