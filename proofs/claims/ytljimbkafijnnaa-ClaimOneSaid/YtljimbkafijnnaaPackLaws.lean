import Derived.Test.YtljimbkafijnnaaPack
namespace Go.Proofs.Ytljimbkafijnnaa
open Go.ChangeShapes Go.WideShapes Go.ChangeAt Go.RowKit
set_option linter.unusedVariables false
theorem head_x (w : World) : Calls Try.prog 88 #[.int .i64 8589934591, .int .i64 5] w fun e w' => e = .returned (.tuple #[.int .i64 8589934597, .bool true]) ∧ w = w' := by
  have h := Next_yes 8589934591 5 (by decide) (by decide) (by decide) (by decide) w
  rw [show sg (pmk ((pver 8589934591 + 1) % 4294967296) 5) = 8589934597 from by unfold sg pmk pver wrap64; omega] at h; exact h
theorem head_y (w : World) : Calls Try.prog 88 #[.int .i64 (-1), .int .i64 7] w fun e w' => e = .returned (.tuple #[.int .i64 7, .bool true]) ∧ w = w' := by
  have h := Next_yes (-1) 7 (by decide) (by decide) (by decide) (by decide) w
  rw [show sg (pmk ((pver (-1) + 1) % 4294967296) 7) = 7 from by unfold sg pmk pver wrap64; omega] at h; exact h
theorem head_u (w : World) : Calls Try.prog 49 #[.int .i64 8589934591] w fun e w' => e = .returned (.int .i64 (-1)) ∧ w = w' := by
  have h := Value_any 8589934591 (by decide) (by decide) w
  rw [show pval 8589934591 = -1 from by unfold pval wrap32; omega] at h; exact h
theorem sg_pver (a b : Int) (h0 : 0 ≤ a) (h1 : a ≤ 4294967295) (h2 : -2147483648 ≤ b) (h3 : b ≤ 2147483647) : pver (sg (pmk a b)) = a := by unfold pver sg pmk wrap64; omega
theorem sg_pval (a b : Int) (h0 : 0 ≤ a) (h1 : a ≤ 4294967295) (h2 : -2147483648 ≤ b) (h3 : b ≤ 2147483647) : pval (sg (pmk a b)) = b := by unfold pval sg pmk wrap64 wrap32; omega
theorem sg_mk (w : Int) (h0 : -9223372036854775808 ≤ w) (h1 : w ≤ 9223372036854775807) : sg (pmk (pver w) (pval w)) = w := by unfold pval pver sg pmk wrap64 wrap32; omega
theorem sg_bd (n : Int) : -9223372036854775808 ≤ sg n ∧ sg n ≤ 9223372036854775807 := by unfold sg wrap64; omega

theorem apart_of (a b : Int) (l0 : -9223372036854775808 ≤ a) (l1 : a ≤ 9223372036854775807) (m0 : -9223372036854775808 ≤ b) (m1 : b ≤ 9223372036854775807) (h : a ≠ b) (hp : pver a = pver b) : pval a ≠ pval b := by
  intro hv
  have h1 := sg_mk a l0 l1
  have h2 := sg_mk b m0 m1
  rw [hp, hv, h2] at h1
  exact h h1.symm
theorem up_yes (a : Int) (h : pver a ≠ 4294967295) : (pver a + 1) % 4294967296 = pver a + 1 := by have := pver_bd a; omega
theorem up_bd (a : Int) : 0 ≤ (pver a + 1) % 4294967296 ∧ (pver a + 1) % 4294967296 ≤ 4294967295 := by omega
theorem next_ne (a b : Int) (h2 : -2147483648 ≤ b) (h3 : b ≤ 2147483647) : (sg (pmk ((pver a + 1) % 4294967296) b) != a) = true := by
  apply bne_t; intro e
  have h := sg_pver ((pver a + 1) % 4294967296) b (up_bd a).1 (up_bd a).2 h2 h3
  rw [e] at h; have := pver_bd a; omega
end Go.Proofs.Ytljimbkafijnnaa
