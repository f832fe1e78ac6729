/- breadlinelaw06's head. -/
import Derived.Test.YtikncpmkjcnhhaaAddPlay
import Derived.Deep.RegionHeld3
namespace Go.Proofs.Ytikncpmkjcnhhaa
open Go.ChangeShapes Go.WideShapes Go.ChangeAt Go.RowKit Go.Shelf
set_option linter.unusedVariables false
set_option maxRecDepth 100000
variable {w0 w w' : World} {F0 : Nat → Prop} {L : List Asn} {ws : List Int} {lg : List Acc} {p : AP}
def hp1 : AP := ⟨0, 2, 4, 3⟩
def hp2 : AP := ⟨0, 2, 4, 2⟩
def hw0 : List Int := [0, 0, 0, 1, 0, 0]
def hw1 : List Int := [0, 0, 0, 1, 4294967299, 0]
def hw2 : List Int := [5, 1, 1, 1, 8589934592, 0]
theorem hp_ok (d : Int) (h0 : -1048576 ≤ d) (h1 : d ≤ 1048576) : AP.Ok ⟨0, 2, 4, d⟩ := ⟨Nat.zero_le _, Or.inr (Or.inl rfl), (by decide : (1 : Int) ≤ 4), (by decide : (4 : Int) ≤ 1048576), h0, h1⟩
theorem hw_ok (d : Int) (ws : List Int) (hl : ws.length = 6) (h3 : ws.getD 3 0 = 1) (hwf : ∀ k : Fin 6, -9223372036854775808 ≤ ws.getD k 0 ∧ ws.getD k 0 ≤ 9223372036854775807) (h4 : pval (ws.getD 4 0) < 4 ∧ -4 < pval (ws.getD 4 0)) (h5 : pval (ws.getD 5 0) < 4 ∧ -4 < pval (ws.getD 5 0)) : WOk ⟨0, 2, 4, d⟩ ws := by
  refine ⟨by simp; omega, by omega, fun k => ?_, Or.inl (by rw [← h3]), by show ws.getD (0 + 3) 0 ≤ 2; rw [Nat.zero_add, h3]; decide, fun k hk => ?_⟩
  · by_cases h : k < 6
    · exact hwf ⟨k, h⟩
    · rw [getD_out _ _ (by omega)]; simp [I64]
  · simp only at hk ⊢
    have : k = 0 ∨ k = 1 := by omega
    rcases this with rfl | rfl
    · exact ⟨h4.2, h4.1⟩
    · exact ⟨h5.2, h5.1⟩
theorem hw0_ok : WOk hp1 hw0 := hw_ok 3 _ rfl rfl (by decide +kernel) (by decide +kernel) (by decide +kernel)
theorem hw1_ok : WOk hp2 hw1 := hw_ok 2 _ rfl rfl (by decide +kernel) (by decide +kernel) (by decide +kernel)
theorem hw2_ok : WOk hp2 hw2 := hw_ok 2 _ rfl rfl (by decide +kernel) (by decide +kernel) (by decide +kernel)
theorem hplay1 (g : Nat) : ∃ s lg, playF (addM g hp1) [] 20 0 (s0A 0) hw0 [] = (3, true, s, hw1, lg) ∧ lg.length = 3 := by
  obtain ⟨lg, h, hl⟩ := alone_keep (p := hp1) (ws := hw0) (lg := []) g 17 0 (bg 0) 0 0 0 0 (by constructor <;> decide +kernel)
  rw [show alK hp1 (bg 0) hw0 = hw1 by decide +kernel] at h
  exact ⟨_, _, h, hl⟩
theorem hplay2 (g : Nat) (lg0 : List Acc) : ∃ s lg, playF (addM g hp2) [] 20 0 (s0A 1) hw1 lg0 = (6, true, s, hw2, lg) := by
  obtain ⟨lg, h, hl⟩ := alone_bring (p := hp2) (ws := hw1) (lg := lg0) g 14 0 (bg 1) 0 0 0 0 (by intro h; revert h; unfold alIn; decide +kernel)
  rw [show alF hp2 (bg 1) hw1 = hw2 by decide +kernel] at h
  exact ⟨_, _, h⟩
theorem pksAt_nil (w : World) : PksAt w (.slice none 0 0) [] := Or.inl ⟨rfl, rfl⟩
theorem ans_eq (w : World) : (binOp .eql 50 (.agg #[.int .i64 0, .int .i64 0, .bool false, .int .i64 0]) (.agg #[.int .i64 0, .int .i64 0, .bool false, .int .i64 0])).run Try.prog w = .ok (.bool true) w := by kernel_rfl
end Go.Proofs.Ytikncpmkjcnhhaa
