import Derived.Test.YtikncpmkjcnhhaaPackLaws
namespace Go.Proofs.Ytikncpmkjcnhhaa
open Go.ChangeShapes Go.WideShapes Go.ChangeAt Go.RowKit
set_option linter.unusedVariables false
theorem rValue_any (a : Int) (ha : -9223372036854775808 ≤ a) (ha1 : a ≤ 9223372036854775807) (w : World) :
    Calls Try.prog 69 #[.int .i64 a] w fun e w' => e = .returned (.int .i64 (pval a)) ∧ w = w' := by
  have Hu := u64_bd a
  have H := Lib.hid (u64_eq a)
  by_cases h : 2147483648 ≤ IntKind.u64.wrap a % 4294967296
  · go_enter Try.func69, Try.ntmps69
    go_wp2
    go_ret
    exact ⟨ret_int (by rw [H.out]; rw [H.out] at h; unfold pval wrap32; omega), rfl⟩
  · have h' : IntKind.u64.wrap a % 4294967296 < 2147483648 := by omega
    clear h
    go_enter Try.func69, Try.ntmps69
    go_wp2
    go_ret
    exact ⟨ret_int (by rw [H.out]; rw [H.out] at h'; unfold pval wrap32; omega), rfl⟩
theorem rWord_yes (a b : Int) (h0 : 0 ≤ a) (h1 : a ≤ 4294967295) (h2 : -2147483648 ≤ b) (h3 : b ≤ 2147483647)  (w : World) :
    Calls Try.prog 29 #[.int .i64 a, .int .i64 b] w fun e w' => e = .returned (.tuple #[.int .i64 (sg (pmk a b)), .bool true]) ∧ w = w' := by
  have D1 : a < 4294967296 := by omega
  have D3 : b < 2147483648 := by omega
  have H := Lib.hid (or_pair a b h0 h1)
  go_enter Try.func29, Try.ntmps29
  go_wp2
  go_ret2
  exact ⟨by rw [H.out]; rfl, rfl⟩
theorem rWord_no (a b : Int) (h : ¬ (0 ≤ a ∧ a ≤ 4294967295 ∧ -2147483648 ≤ b ∧ b ≤ 2147483647)) (w : World) :
    Calls Try.prog 29 #[.int .i64 a, .int .i64 b] w fun e w' => e = .returned (.tuple #[.int .i64 0, .bool false]) ∧ w = w' := by
  have hc : a < 0 ∨ (0 ≤ a ∧ 4294967296 ≤ a) ∨ (0 ≤ a ∧ a < 4294967296 ∧ b < -2147483648) ∨ (0 ≤ a ∧ a < 4294967296 ∧ -2147483648 ≤ b ∧ 2147483648 ≤ b) := by omega
  clear h
  rcases hc with hc | ⟨hc, hd⟩ | ⟨hc, hd, he⟩ | ⟨hc, hd, he, hf⟩
  all_goals
    go_enter Try.func29, Try.ntmps29
    go_wp2
    go_ret2
    exact ⟨rfl, rfl⟩
end Go.Proofs.Ytikncpmkjcnhhaa
