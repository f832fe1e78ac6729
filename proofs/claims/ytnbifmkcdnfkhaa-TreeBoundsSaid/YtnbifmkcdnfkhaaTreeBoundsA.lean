/- TreeBounds. Written by tools/gen_bounds.py. -/
import Derived.Test.YtnbifmkcdnfkhaaTreeBounds0
namespace Go.Proofs.Ytnbifmkcdnfkhaa
open Go.ChangeShapes Go.WideShapes Go.ChangeAt Go.RowKit Go.Shelf
set_option linter.unusedVariables false
set_option maxRecDepth 100000 in
set_option maxHeartbeats 2000000 in
theorem TreeBounds_0a (W : World) (x : Int) (x0 : 0 ≤ x) (x1 : x ≤ 255) (n : Int) (n0 : -9223372036854775808 ≤ n) (n1 : n ≤ 9223372036854775807) (hq : x % 9 = 0) (h : n < 1) :
    Calls Try.prog 7 #[.int .u8 x, .int .i64 n] W fun e w' => e = .returned (.bool true) ∧ Below W.heap.size W w' := by
  have Hh := Lib.hid (head_any (Own.start W))
  have HBase := fun w (h : Own W (fun _ => False) [] w) => Lib.hid (Base_any h)
  have HR := fun w (h : Own W (fun _ => False) [] w) => Lib.hid (Right_new (cf0 n) rfl rfl (wf0 n ⟨n0, n1⟩) false (by rw [rt0]; unfold Bd; exact iff_of_false (by decide) (by omega)) h)
  have f1 : decide (1 ≤ n) = false := by simp; omega
  go_enter Try.func7, Try.ntmps7
  go_wp2_with fail
  refine Hh.out.mono ?_
  rintro e w1 ⟨rfl, hO⟩
  have HO := Lib.hid hO
  clear hO Hh
  go_wp2_with fail
  refine (HBase _ HO.out).out.mono ?_
  rintro e w2 ⟨g, k, rfl, hO⟩
  have HO2 := Lib.hid hO.drop.drop
  clear hO HO HBase
  go_wp2_with fail
  refine (HR _ HO2.out).out.mono ?_
  rintro e w3 ⟨rfl, hB⟩
  have HO3 := Lib.hid hB
  clear hB HO2 HR
  go_wp2_with fail
  go_ret
  exact ⟨rfl, HO3.out⟩
set_option maxRecDepth 100000 in
set_option maxHeartbeats 2000000 in
theorem TreeBounds_0b (W : World) (x : Int) (x0 : 0 ≤ x) (x1 : x ≤ 255) (n : Int) (n0 : -9223372036854775808 ≤ n) (n1 : n ≤ 9223372036854775807) (hq : x % 9 = 0) (h : 1 ≤ n) (h2 : n ≤ 8) :
    Calls Try.prog 7 #[.int .u8 x, .int .i64 n] W fun e w' => e = .returned (.bool true) ∧ Below W.heap.size W w' := by
  have Hh := Lib.hid (head_any (Own.start W))
  have HBase := fun w (h : Own W (fun _ => False) [] w) => Lib.hid (Base_any h)
  have HR := fun w (h : Own W (fun _ => False) [] w) => Lib.hid (Right_new (cf0 n) rfl rfl (wf0 n ⟨n0, n1⟩) true (by rw [rt0]; unfold Bd; exact iff_of_true rfl (by omega)) h)
  go_enter Try.func7, Try.ntmps7
  go_wp2_with fail
  refine Hh.out.mono ?_
  rintro e w1 ⟨rfl, hO⟩
  have HO := Lib.hid hO
  clear hO Hh
  go_wp2_with fail
  refine (HBase _ HO.out).out.mono ?_
  rintro e w2 ⟨g, k, rfl, hO⟩
  have HO2 := Lib.hid hO.drop.drop
  clear hO HO HBase
  go_wp2_with fail
  refine (HR _ HO2.out).out.mono ?_
  rintro e w3 ⟨rfl, hB⟩
  have HO3 := Lib.hid hB
  clear hB HO2 HR
  go_wp2_with fail
  go_ret
  exact ⟨rfl, HO3.out⟩
set_option maxRecDepth 100000 in
set_option maxHeartbeats 2000000 in
theorem TreeBounds_0c (W : World) (x : Int) (x0 : 0 ≤ x) (x1 : x ≤ 255) (n : Int) (n0 : -9223372036854775808 ≤ n) (n1 : n ≤ 9223372036854775807) (hq : x % 9 = 0) (h : 1 ≤ n) (h2 : 8 < n) :
    Calls Try.prog 7 #[.int .u8 x, .int .i64 n] W fun e w' => e = .returned (.bool true) ∧ Below W.heap.size W w' := by
  have Hh := Lib.hid (head_any (Own.start W))
  have HBase := fun w (h : Own W (fun _ => False) [] w) => Lib.hid (Base_any h)
  have HR := fun w (h : Own W (fun _ => False) [] w) => Lib.hid (Right_new (cf0 n) rfl rfl (wf0 n ⟨n0, n1⟩) false (by rw [rt0]; unfold Bd; exact iff_of_false (by decide) (by omega)) h)
  have f1 : decide (n ≤ 8) = false := by simp; omega
  go_enter Try.func7, Try.ntmps7
  go_wp2_with fail
  refine Hh.out.mono ?_
  rintro e w1 ⟨rfl, hO⟩
  have HO := Lib.hid hO
  clear hO Hh
  go_wp2_with fail
  refine (HBase _ HO.out).out.mono ?_
  rintro e w2 ⟨g, k, rfl, hO⟩
  have HO2 := Lib.hid hO.drop.drop
  clear hO HO HBase
  go_wp2_with fail
  refine (HR _ HO2.out).out.mono ?_
  rintro e w3 ⟨rfl, hB⟩
  have HO3 := Lib.hid hB
  clear hB HO2 HR
  go_wp2_with fail
  go_ret
  exact ⟨rfl, HO3.out⟩
set_option maxRecDepth 100000 in
set_option maxHeartbeats 2000000 in
theorem TreeBounds_1a (W : World) (x : Int) (x0 : 0 ≤ x) (x1 : x ≤ 255) (n : Int) (n0 : -9223372036854775808 ≤ n) (n1 : n ≤ 9223372036854775807) (hq : x % 9 = 1)  (h : n = 1) :
    Calls Try.prog 7 #[.int .u8 x, .int .i64 n] W fun e w' => e = .returned (.bool true) ∧ Below W.heap.size W w' := by
  have Hh := Lib.hid (head_any (Own.start W))
  have HBase := fun w (h : Own W (fun _ => False) [] w) => Lib.hid (Base_any h)
  have HR := fun w (h : Own W (fun _ => False) [] w) => Lib.hid (Right_new (cf1 n) rfl rfl (wf1 n ⟨n0, n1⟩) true (by rw [rt1]; unfold Pow; exact iff_of_true rfl (by omega)) h)
  have f0 : (n == 1) = true := by simp [h]
  clear h
  go_enter Try.func7, Try.ntmps7
  go_wp2_with fail
  refine Hh.out.mono ?_
  rintro e w1 ⟨rfl, hO⟩
  have HO := Lib.hid hO
  clear hO Hh
  go_wp2_with fail
  refine (HBase _ HO.out).out.mono ?_
  rintro e w2 ⟨g, k, rfl, hO⟩
  have HO2 := Lib.hid hO.drop.drop
  clear hO HO HBase
  go_wp2_with fail
  refine (HR _ HO2.out).out.mono ?_
  rintro e w3 ⟨rfl, hB⟩
  have HO3 := Lib.hid hB
  clear hB HO2 HR
  go_wp2_with fail
  go_ret
  exact ⟨rfl, HO3.out⟩
set_option maxRecDepth 100000 in
set_option maxHeartbeats 2000000 in
theorem TreeBounds_1b (W : World) (x : Int) (x0 : 0 ≤ x) (x1 : x ≤ 255) (n : Int) (n0 : -9223372036854775808 ≤ n) (n1 : n ≤ 9223372036854775807) (hq : x % 9 = 1) (g0 : n ≠ 1) (h : n = 2) :
    Calls Try.prog 7 #[.int .u8 x, .int .i64 n] W fun e w' => e = .returned (.bool true) ∧ Below W.heap.size W w' := by
  have Hh := Lib.hid (head_any (Own.start W))
  have HBase := fun w (h : Own W (fun _ => False) [] w) => Lib.hid (Base_any h)
  have HR := fun w (h : Own W (fun _ => False) [] w) => Lib.hid (Right_new (cf1 n) rfl rfl (wf1 n ⟨n0, n1⟩) true (by rw [rt1]; unfold Pow; exact iff_of_true rfl (by omega)) h)
  have f0 : (n == 1) = false := by simp [g0]
  have f1 : (n == 2) = true := by simp [h]
  clear h g0
  go_enter Try.func7, Try.ntmps7
  go_wp2_with fail
  refine Hh.out.mono ?_
  rintro e w1 ⟨rfl, hO⟩
  have HO := Lib.hid hO
  clear hO Hh
  go_wp2_with fail
  refine (HBase _ HO.out).out.mono ?_
  rintro e w2 ⟨g, k, rfl, hO⟩
  have HO2 := Lib.hid hO.drop.drop
  clear hO HO HBase
  go_wp2_with fail
  refine (HR _ HO2.out).out.mono ?_
  rintro e w3 ⟨rfl, hB⟩
  have HO3 := Lib.hid hB
  clear hB HO2 HR
  go_wp2_with fail
  go_ret
  exact ⟨rfl, HO3.out⟩
set_option maxRecDepth 100000 in
set_option maxHeartbeats 2000000 in
theorem TreeBounds_1c (W : World) (x : Int) (x0 : 0 ≤ x) (x1 : x ≤ 255) (n : Int) (n0 : -9223372036854775808 ≤ n) (n1 : n ≤ 9223372036854775807) (hq : x % 9 = 1) (g0 : n ≠ 1) (g1 : n ≠ 2) (h : n = 4) :
    Calls Try.prog 7 #[.int .u8 x, .int .i64 n] W fun e w' => e = .returned (.bool true) ∧ Below W.heap.size W w' := by
  have Hh := Lib.hid (head_any (Own.start W))
  have HBase := fun w (h : Own W (fun _ => False) [] w) => Lib.hid (Base_any h)
  have HR := fun w (h : Own W (fun _ => False) [] w) => Lib.hid (Right_new (cf1 n) rfl rfl (wf1 n ⟨n0, n1⟩) true (by rw [rt1]; unfold Pow; exact iff_of_true rfl (by omega)) h)
  have f0 : (n == 1) = false := by simp [g0]
  have f1 : (n == 2) = false := by simp [g1]
  have f2 : (n == 4) = true := by simp [h]
  clear h g0 g1
  go_enter Try.func7, Try.ntmps7
  go_wp2_with fail
  refine Hh.out.mono ?_
  rintro e w1 ⟨rfl, hO⟩
  have HO := Lib.hid hO
  clear hO Hh
  go_wp2_with fail
  refine (HBase _ HO.out).out.mono ?_
  rintro e w2 ⟨g, k, rfl, hO⟩
  have HO2 := Lib.hid hO.drop.drop
  clear hO HO HBase
  go_wp2_with fail
  refine (HR _ HO2.out).out.mono ?_
  rintro e w3 ⟨rfl, hB⟩
  have HO3 := Lib.hid hB
  clear hB HO2 HR
  go_wp2_with fail
  go_ret
  exact ⟨rfl, HO3.out⟩
set_option maxRecDepth 100000 in
set_option maxHeartbeats 2000000 in
theorem TreeBounds_1d (W : World) (x : Int) (x0 : 0 ≤ x) (x1 : x ≤ 255) (n : Int) (n0 : -9223372036854775808 ≤ n) (n1 : n ≤ 9223372036854775807) (hq : x % 9 = 1) (g0 : n ≠ 1) (g1 : n ≠ 2) (g2 : n ≠ 4) (h : n = 8) :
    Calls Try.prog 7 #[.int .u8 x, .int .i64 n] W fun e w' => e = .returned (.bool true) ∧ Below W.heap.size W w' := by
  have Hh := Lib.hid (head_any (Own.start W))
  have HBase := fun w (h : Own W (fun _ => False) [] w) => Lib.hid (Base_any h)
  have HR := fun w (h : Own W (fun _ => False) [] w) => Lib.hid (Right_new (cf1 n) rfl rfl (wf1 n ⟨n0, n1⟩) true (by rw [rt1]; unfold Pow; exact iff_of_true rfl (by omega)) h)
  have f0 : (n == 1) = false := by simp [g0]
  have f1 : (n == 2) = false := by simp [g1]
  have f2 : (n == 4) = false := by simp [g2]
  have f3 : (n == 8) = true := by simp [h]
  clear h g0 g1 g2
  go_enter Try.func7, Try.ntmps7
  go_wp2_with fail
  refine Hh.out.mono ?_
  rintro e w1 ⟨rfl, hO⟩
  have HO := Lib.hid hO
  clear hO Hh
  go_wp2_with fail
  refine (HBase _ HO.out).out.mono ?_
  rintro e w2 ⟨g, k, rfl, hO⟩
  have HO2 := Lib.hid hO.drop.drop
  clear hO HO HBase
  go_wp2_with fail
  refine (HR _ HO2.out).out.mono ?_
  rintro e w3 ⟨rfl, hB⟩
  have HO3 := Lib.hid hB
  clear hB HO2 HR
  go_wp2_with fail
  go_ret
  exact ⟨rfl, HO3.out⟩
set_option maxRecDepth 100000 in
set_option maxHeartbeats 2000000 in
theorem TreeBounds_1e (W : World) (x : Int) (x0 : 0 ≤ x) (x1 : x ≤ 255) (n : Int) (n0 : -9223372036854775808 ≤ n) (n1 : n ≤ 9223372036854775807) (hq : x % 9 = 1) (g0 : n ≠ 1) (g1 : n ≠ 2) (g2 : n ≠ 4) (g3 : n ≠ 8) :
    Calls Try.prog 7 #[.int .u8 x, .int .i64 n] W fun e w' => e = .returned (.bool true) ∧ Below W.heap.size W w' := by
  have Hh := Lib.hid (head_any (Own.start W))
  have HBase := fun w (h : Own W (fun _ => False) [] w) => Lib.hid (Base_any h)
  have HR := fun w (h : Own W (fun _ => False) [] w) => Lib.hid (Right_new (cf1 n) rfl rfl (wf1 n ⟨n0, n1⟩) false (by rw [rt1]; unfold Pow; exact iff_of_false (by decide) (by omega)) h)
  have f0 : (n == 1) = false := by simp [g0]
  have f1 : (n == 2) = false := by simp [g1]
  have f2 : (n == 4) = false := by simp [g2]
  have f3 : (n == 8) = false := by simp [g3]
  clear g0 g1 g2 g3
  go_enter Try.func7, Try.ntmps7
  go_wp2_with fail
  refine Hh.out.mono ?_
  rintro e w1 ⟨rfl, hO⟩
  have HO := Lib.hid hO
  clear hO Hh
  go_wp2_with fail
  refine (HBase _ HO.out).out.mono ?_
  rintro e w2 ⟨g, k, rfl, hO⟩
  have HO2 := Lib.hid hO.drop.drop
  clear hO HO HBase
  go_wp2_with fail
  refine (HR _ HO2.out).out.mono ?_
  rintro e w3 ⟨rfl, hB⟩
  have HO3 := Lib.hid hB
  clear hB HO2 HR
  go_wp2_with fail
  go_ret
  exact ⟨rfl, HO3.out⟩
set_option maxRecDepth 100000 in
set_option maxHeartbeats 2000000 in
theorem TreeBounds_2a (W : World) (x : Int) (x0 : 0 ≤ x) (x1 : x ≤ 255) (n : Int) (n0 : -9223372036854775808 ≤ n) (n1 : n ≤ 9223372036854775807) (hq : x % 9 = 2) (h : n < 1) :
    Calls Try.prog 7 #[.int .u8 x, .int .i64 n] W fun e w' => e = .returned (.bool true) ∧ Below W.heap.size W w' := by
  have Hh := Lib.hid (head_any (Own.start W))
  have HBase := fun w (h : Own W (fun _ => False) [] w) => Lib.hid (Base_any h)
  have HR := fun w (h : Own W (fun _ => False) [] w) => Lib.hid (Right_new (cf2 n) rfl rfl (wf2 n ⟨n0, n1⟩) false (by rw [rt2]; unfold Bd; exact iff_of_false (by decide) (by omega)) h)
  have f1 : decide (1 ≤ n) = false := by simp; omega
  go_enter Try.func7, Try.ntmps7
  go_wp2_with fail
  refine Hh.out.mono ?_
  rintro e w1 ⟨rfl, hO⟩
  have HO := Lib.hid hO
  clear hO Hh
  go_wp2_with fail
  refine (HBase _ HO.out).out.mono ?_
  rintro e w2 ⟨g, k, rfl, hO⟩
  have HO2 := Lib.hid hO.drop.drop
  clear hO HO HBase
  go_wp2_with fail
  refine (HR _ HO2.out).out.mono ?_
  rintro e w3 ⟨rfl, hB⟩
  have HO3 := Lib.hid hB
  clear hB HO2 HR
  go_wp2_with fail
  go_ret
  exact ⟨rfl, HO3.out⟩
set_option maxRecDepth 100000 in
set_option maxHeartbeats 2000000 in
theorem TreeBounds_2b (W : World) (x : Int) (x0 : 0 ≤ x) (x1 : x ≤ 255) (n : Int) (n0 : -9223372036854775808 ≤ n) (n1 : n ≤ 9223372036854775807) (hq : x % 9 = 2) (h : 1 ≤ n) (h2 : n ≤ 1048576) :
    Calls Try.prog 7 #[.int .u8 x, .int .i64 n] W fun e w' => e = .returned (.bool true) ∧ Below W.heap.size W w' := by
  have Hh := Lib.hid (head_any (Own.start W))
  have HBase := fun w (h : Own W (fun _ => False) [] w) => Lib.hid (Base_any h)
  have HR := fun w (h : Own W (fun _ => False) [] w) => Lib.hid (Right_new (cf2 n) rfl rfl (wf2 n ⟨n0, n1⟩) true (by rw [rt2]; unfold Bd; exact iff_of_true rfl (by omega)) h)
  go_enter Try.func7, Try.ntmps7
  go_wp2_with fail
  refine Hh.out.mono ?_
  rintro e w1 ⟨rfl, hO⟩
  have HO := Lib.hid hO
  clear hO Hh
  go_wp2_with fail
  refine (HBase _ HO.out).out.mono ?_
  rintro e w2 ⟨g, k, rfl, hO⟩
  have HO2 := Lib.hid hO.drop.drop
  clear hO HO HBase
  go_wp2_with fail
  refine (HR _ HO2.out).out.mono ?_
  rintro e w3 ⟨rfl, hB⟩
  have HO3 := Lib.hid hB
  clear hB HO2 HR
  go_wp2_with fail
  go_ret
  exact ⟨rfl, HO3.out⟩
set_option maxRecDepth 100000 in
set_option maxHeartbeats 2000000 in
theorem TreeBounds_2c (W : World) (x : Int) (x0 : 0 ≤ x) (x1 : x ≤ 255) (n : Int) (n0 : -9223372036854775808 ≤ n) (n1 : n ≤ 9223372036854775807) (hq : x % 9 = 2) (h : 1 ≤ n) (h2 : 1048576 < n) :
    Calls Try.prog 7 #[.int .u8 x, .int .i64 n] W fun e w' => e = .returned (.bool true) ∧ Below W.heap.size W w' := by
  have Hh := Lib.hid (head_any (Own.start W))
  have HBase := fun w (h : Own W (fun _ => False) [] w) => Lib.hid (Base_any h)
  have HR := fun w (h : Own W (fun _ => False) [] w) => Lib.hid (Right_new (cf2 n) rfl rfl (wf2 n ⟨n0, n1⟩) false (by rw [rt2]; unfold Bd; exact iff_of_false (by decide) (by omega)) h)
  have f1 : decide (n ≤ 1048576) = false := by simp; omega
  go_enter Try.func7, Try.ntmps7
  go_wp2_with fail
  refine Hh.out.mono ?_
  rintro e w1 ⟨rfl, hO⟩
  have HO := Lib.hid hO
  clear hO Hh
  go_wp2_with fail
  refine (HBase _ HO.out).out.mono ?_
  rintro e w2 ⟨g, k, rfl, hO⟩
  have HO2 := Lib.hid hO.drop.drop
  clear hO HO HBase
  go_wp2_with fail
  refine (HR _ HO2.out).out.mono ?_
  rintro e w3 ⟨rfl, hB⟩
  have HO3 := Lib.hid hB
  clear hB HO2 HR
  go_wp2_with fail
  go_ret
  exact ⟨rfl, HO3.out⟩
end Go.Proofs.Ytnbifmkcdnfkhaa
