/- TreeBounds. Written by tools/gen_bounds.py. -/
import Derived.Test.YtnbifmkcdnfkhaaTreeBoundsA
import Derived.Test.YtnbifmkcdnfkhaaTreeBoundsB
import Derived.Test.YtnbifmkcdnfkhaaTreeBoundsC
namespace Go.Proofs.Ytnbifmkcdnfkhaa
open Go.ChangeShapes Go.WideShapes Go.ChangeAt Go.RowKit Go.Shelf
set_option linter.unusedVariables false
theorem TreeBounds_calls (W : World) (x : Int) (x0 : 0 ≤ x) (x1 : x ≤ 255) (n : Int) (n0 : -9223372036854775808 ≤ n) (n1 : n ≤ 9223372036854775807) :
    Calls Try.prog 7 #[.int .u8 x, .int .i64 n] W fun e w' => e = .returned (.bool true) ∧ Below W.heap.size W w' := by
  rcases (by omega : x % 9 = 0 ∨ x % 9 = 1 ∨ x % 9 = 2 ∨ x % 9 = 3 ∨ x % 9 = 4 ∨ x % 9 = 5 ∨ x % 9 = 6 ∨ x % 9 = 7 ∨ x % 9 = 8) with h | h | h | h | h | h | h | h | h
  · by_cases a : 1 ≤ n
    · by_cases b : n ≤ 8
      · exact TreeBounds_0b W x x0 x1 n n0 n1 h a b
      · exact TreeBounds_0c W x x0 x1 n n0 n1 h a (by omega)
    · exact TreeBounds_0a W x x0 x1 n n0 n1 h (by omega)
  · by_cases a0 : n = 1
    · exact TreeBounds_1a W x x0 x1 n n0 n1 h a0
    · by_cases a1 : n = 2
      · exact TreeBounds_1b W x x0 x1 n n0 n1 h a0 a1
      · by_cases a2 : n = 4
        · exact TreeBounds_1c W x x0 x1 n n0 n1 h a0 a1 a2
        · by_cases a3 : n = 8
          · exact TreeBounds_1d W x x0 x1 n n0 n1 h a0 a1 a2 a3
          · exact TreeBounds_1e W x x0 x1 n n0 n1 h a0 a1 a2 a3
  · by_cases a : 1 ≤ n
    · by_cases b : n ≤ 1048576
      · exact TreeBounds_2b W x x0 x1 n n0 n1 h a b
      · exact TreeBounds_2c W x x0 x1 n n0 n1 h a (by omega)
    · exact TreeBounds_2a W x x0 x1 n n0 n1 h (by omega)
  · by_cases a : 0 ≤ n
    · by_cases b : n ≤ 1048576
      · exact TreeBounds_3b W x x0 x1 n n0 n1 h a b
      · exact TreeBounds_3c W x x0 x1 n n0 n1 h a (by omega)
    · exact TreeBounds_3a W x x0 x1 n n0 n1 h (by omega)
  · by_cases a : 1 ≤ n
    · by_cases b : n ≤ 8
      · exact TreeBounds_4b W x x0 x1 n n0 n1 h a b
      · exact TreeBounds_4c W x x0 x1 n n0 n1 h a (by omega)
    · exact TreeBounds_4a W x x0 x1 n n0 n1 h (by omega)
  · by_cases a : 1 ≤ n
    · by_cases b : n ≤ 16
      · exact TreeBounds_5b W x x0 x1 n n0 n1 h a b
      · exact TreeBounds_5c W x x0 x1 n n0 n1 h a (by omega)
    · exact TreeBounds_5a W x x0 x1 n n0 n1 h (by omega)
  · by_cases a0 : n = 0
    · exact TreeBounds_6a W x x0 x1 n n0 n1 h a0
    · by_cases a1 : n = 1
      · exact TreeBounds_6b W x x0 x1 n n0 n1 h a0 a1
      · exact TreeBounds_6c W x x0 x1 n n0 n1 h a0 a1
  · by_cases a : 0 ≤ n
    · by_cases b : n ≤ 1099511627776
      · exact TreeBounds_7b W x x0 x1 n n0 n1 h a b
      · exact TreeBounds_7c W x x0 x1 n n0 n1 h a (by omega)
    · exact TreeBounds_7a W x x0 x1 n n0 n1 h (by omega)
  · by_cases a0 : n = -1
    · exact TreeBounds_8a W x x0 x1 n n0 n1 h a0
    · exact TreeBounds_8b W x x0 x1 n n0 n1 h a0
end Go.Proofs.Ytnbifmkcdnfkhaa
