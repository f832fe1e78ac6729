/- TreeBounds. Written by tools/gen_bounds.py. -/
import Derived.Test.YtnbifmkcdnfkhaaTreeBounds0
namespace Go.Proofs.Ytnbifmkcdnfkhaa
open Go.ChangeShapes Go.WideShapes Go.ChangeAt Go.RowKit Go.Shelf
set_option linter.unusedVariables false
set_option maxRecDepth 100000 in
set_option maxHeartbeats 2000000 in
theorem TreeBounds_6a (W : World) (x : Int) (x0 : 0 ≤ x) (x1 : x ≤ 255) (n : Int) (n0 : -9223372036854775808 ≤ n) (n1 : n ≤ 9223372036854775807) (hq : x % 9 = 6)  (h : n = 0) :
    Calls Try.prog 7 #[.int .u8 x, .int .i64 n] W fun e w' => e = .returned (.bool true) ∧ Below W.heap.size W w' := by
  have Hh := Lib.hid (head_any (Own.start W))
  have HBase := fun w (h : Own W (fun _ => False) [] w) => Lib.hid (Base_any h)
  have HR := fun w (h : Own W (fun _ => False) [] w) => Lib.hid (Right_new (cf6 n) rfl rfl (wf6 n ⟨n0, n1⟩) true (by rw [rt6]; exact iff_of_true rfl (by omega)) h)
  have f0 : (n == 0) = true := by simp [h]
  clear h
  go_enter Try.func7, Try.ntmps7
  go_wp2_with fail
  refine Hh.out.mono ?_
  rintro e w1 ⟨rfl, hO⟩
  have HO := Lib.hid hO
  clear hO Hh
  go_wp2_with fail
  refine (HBase _ HO.out).out.mono ?_
  rintro e w2 ⟨g, k, rfl, hO⟩
  have HO2 := Lib.hid hO.drop.drop
  clear hO HO HBase
  go_wp2_with fail
  refine (HR _ HO2.out).out.mono ?_
  rintro e w3 ⟨rfl, hB⟩
  have HO3 := Lib.hid hB
  clear hB HO2 HR
  go_wp2_with fail
  go_ret
  exact ⟨rfl, HO3.out⟩
set_option maxRecDepth 100000 in
set_option maxHeartbeats 2000000 in
theorem TreeBounds_6b (W : World) (x : Int) (x0 : 0 ≤ x) (x1 : x ≤ 255) (n : Int) (n0 : -9223372036854775808 ≤ n) (n1 : n ≤ 9223372036854775807) (hq : x % 9 = 6) (g0 : n ≠ 0) (h : n = 1) :
    Calls Try.prog 7 #[.int .u8 x, .int .i64 n] W fun e w' => e = .returned (.bool true) ∧ Below W.heap.size W w' := by
  have Hh := Lib.hid (head_any (Own.start W))
  have HBase := fun w (h : Own W (fun _ => False) [] w) => Lib.hid (Base_any h)
  have HR := fun w (h : Own W (fun _ => False) [] w) => Lib.hid (Right_new (cf6 n) rfl rfl (wf6 n ⟨n0, n1⟩) true (by rw [rt6]; exact iff_of_true rfl (by omega)) h)
  have f0 : (n == 0) = false := by simp [g0]
  have f1 : (n == 1) = true := by simp [h]
  clear h g0
  go_enter Try.func7, Try.ntmps7
  go_wp2_with fail
  refine Hh.out.mono ?_
  rintro e w1 ⟨rfl, hO⟩
  have HO := Lib.hid hO
  clear hO Hh
  go_wp2_with fail
  refine (HBase _ HO.out).out.mono ?_
  rintro e w2 ⟨g, k, rfl, hO⟩
  have HO2 := Lib.hid hO.drop.drop
  clear hO HO HBase
  go_wp2_with fail
  refine (HR _ HO2.out).out.mono ?_
  rintro e w3 ⟨rfl, hB⟩
  have HO3 := Lib.hid hB
  clear hB HO2 HR
  go_wp2_with fail
  go_ret
  exact ⟨rfl, HO3.out⟩
set_option maxRecDepth 100000 in
set_option maxHeartbeats 2000000 in
theorem TreeBounds_6c (W : World) (x : Int) (x0 : 0 ≤ x) (x1 : x ≤ 255) (n : Int) (n0 : -9223372036854775808 ≤ n) (n1 : n ≤ 9223372036854775807) (hq : x % 9 = 6) (g0 : n ≠ 0) (g1 : n ≠ 1) :
    Calls Try.prog 7 #[.int .u8 x, .int .i64 n] W fun e w' => e = .returned (.bool true) ∧ Below W.heap.size W w' := by
  have Hh := Lib.hid (head_any (Own.start W))
  have HBase := fun w (h : Own W (fun _ => False) [] w) => Lib.hid (Base_any h)
  have HR := fun w (h : Own W (fun _ => False) [] w) => Lib.hid (Right_new (cf6 n) rfl rfl (wf6 n ⟨n0, n1⟩) false (by rw [rt6]; exact iff_of_false (by decide) (by omega)) h)
  have f0 : (n == 0) = false := by simp [g0]
  have f1 : (n == 1) = false := by simp [g1]
  clear g0 g1
  go_enter Try.func7, Try.ntmps7
  go_wp2_with fail
  refine Hh.out.mono ?_
  rintro e w1 ⟨rfl, hO⟩
  have HO := Lib.hid hO
  clear hO Hh
  go_wp2_with fail
  refine (HBase _ HO.out).out.mono ?_
  rintro e w2 ⟨g, k, rfl, hO⟩
  have HO2 := Lib.hid hO.drop.drop
  clear hO HO HBase
  go_wp2_with fail
  refine (HR _ HO2.out).out.mono ?_
  rintro e w3 ⟨rfl, hB⟩
  have HO3 := Lib.hid hB
  clear hB HO2 HR
  go_wp2_with fail
  go_ret
  exact ⟨rfl, HO3.out⟩
set_option maxRecDepth 100000 in
set_option maxHeartbeats 2000000 in
theorem TreeBounds_7a (W : World) (x : Int) (x0 : 0 ≤ x) (x1 : x ≤ 255) (n : Int) (n0 : -9223372036854775808 ≤ n) (n1 : n ≤ 9223372036854775807) (hq : x % 9 = 7) (h : n < 0) :
    Calls Try.prog 7 #[.int .u8 x, .int .i64 n] W fun e w' => e = .returned (.bool true) ∧ Below W.heap.size W w' := by
  have Hh := Lib.hid (head_any (Own.start W))
  have HBase := fun w (h : Own W (fun _ => False) [] w) => Lib.hid (Base_any h)
  have HR := fun w (h : Own W (fun _ => False) [] w) => Lib.hid (Right_new (cf7 n) rfl rfl (wf7 n ⟨n0, n1⟩) false (by rw [rt7]; unfold Bd; exact iff_of_false (by decide) (by omega)) h)
  have f1 : decide (0 ≤ n) = false := by simp; omega
  go_enter Try.func7, Try.ntmps7
  go_wp2_with fail
  refine Hh.out.mono ?_
  rintro e w1 ⟨rfl, hO⟩
  have HO := Lib.hid hO
  clear hO Hh
  go_wp2_with fail
  refine (HBase _ HO.out).out.mono ?_
  rintro e w2 ⟨g, k, rfl, hO⟩
  have HO2 := Lib.hid hO.drop.drop
  clear hO HO HBase
  go_wp2_with fail
  refine (HR _ HO2.out).out.mono ?_
  rintro e w3 ⟨rfl, hB⟩
  have HO3 := Lib.hid hB
  clear hB HO2 HR
  go_wp2_with fail
  go_ret
  exact ⟨rfl, HO3.out⟩
set_option maxRecDepth 100000 in
set_option maxHeartbeats 2000000 in
theorem TreeBounds_7b (W : World) (x : Int) (x0 : 0 ≤ x) (x1 : x ≤ 255) (n : Int) (n0 : -9223372036854775808 ≤ n) (n1 : n ≤ 9223372036854775807) (hq : x % 9 = 7) (h : 0 ≤ n) (h2 : n ≤ 1099511627776) :
    Calls Try.prog 7 #[.int .u8 x, .int .i64 n] W fun e w' => e = .returned (.bool true) ∧ Below W.heap.size W w' := by
  have Hh := Lib.hid (head_any (Own.start W))
  have HBase := fun w (h : Own W (fun _ => False) [] w) => Lib.hid (Base_any h)
  have HR := fun w (h : Own W (fun _ => False) [] w) => Lib.hid (Right_new (cf7 n) rfl rfl (wf7 n ⟨n0, n1⟩) true (by rw [rt7]; unfold Bd; exact iff_of_true rfl (by omega)) h)
  go_enter Try.func7, Try.ntmps7
  go_wp2_with fail
  refine Hh.out.mono ?_
  rintro e w1 ⟨rfl, hO⟩
  have HO := Lib.hid hO
  clear hO Hh
  go_wp2_with fail
  refine (HBase _ HO.out).out.mono ?_
  rintro e w2 ⟨g, k, rfl, hO⟩
  have HO2 := Lib.hid hO.drop.drop
  clear hO HO HBase
  go_wp2_with fail
  refine (HR _ HO2.out).out.mono ?_
  rintro e w3 ⟨rfl, hB⟩
  have HO3 := Lib.hid hB
  clear hB HO2 HR
  go_wp2_with fail
  go_ret
  exact ⟨rfl, HO3.out⟩
set_option maxRecDepth 100000 in
set_option maxHeartbeats 2000000 in
theorem TreeBounds_7c (W : World) (x : Int) (x0 : 0 ≤ x) (x1 : x ≤ 255) (n : Int) (n0 : -9223372036854775808 ≤ n) (n1 : n ≤ 9223372036854775807) (hq : x % 9 = 7) (h : 0 ≤ n) (h2 : 1099511627776 < n) :
    Calls Try.prog 7 #[.int .u8 x, .int .i64 n] W fun e w' => e = .returned (.bool true) ∧ Below W.heap.size W w' := by
  have Hh := Lib.hid (head_any (Own.start W))
  have HBase := fun w (h : Own W (fun _ => False) [] w) => Lib.hid (Base_any h)
  have HR := fun w (h : Own W (fun _ => False) [] w) => Lib.hid (Right_new (cf7 n) rfl rfl (wf7 n ⟨n0, n1⟩) false (by rw [rt7]; unfold Bd; exact iff_of_false (by decide) (by omega)) h)
  have f1 : decide (n ≤ 1099511627776) = false := by simp; omega
  go_enter Try.func7, Try.ntmps7
  go_wp2_with fail
  refine Hh.out.mono ?_
  rintro e w1 ⟨rfl, hO⟩
  have HO := Lib.hid hO
  clear hO Hh
  go_wp2_with fail
  refine (HBase _ HO.out).out.mono ?_
  rintro e w2 ⟨g, k, rfl, hO⟩
  have HO2 := Lib.hid hO.drop.drop
  clear hO HO HBase
  go_wp2_with fail
  refine (HR _ HO2.out).out.mono ?_
  rintro e w3 ⟨rfl, hB⟩
  have HO3 := Lib.hid hB
  clear hB HO2 HR
  go_wp2_with fail
  go_ret
  exact ⟨rfl, HO3.out⟩
set_option maxRecDepth 100000 in
set_option maxHeartbeats 2000000 in
theorem TreeBounds_8a (W : World) (x : Int) (x0 : 0 ≤ x) (x1 : x ≤ 255) (n : Int) (n0 : -9223372036854775808 ≤ n) (n1 : n ≤ 9223372036854775807) (hq : x % 9 = 8)  (h : n = -1) :
    Calls Try.prog 7 #[.int .u8 x, .int .i64 n] W fun e w' => e = .returned (.bool true) ∧ Below W.heap.size W w' := by
  have Hh := Lib.hid (head_any (Own.start W))
  have HBase := fun w (h : Own W (fun _ => False) [] w) => Lib.hid (Base_any h)
  have HR := fun w (h : Own W (fun _ => False) [] w) => Lib.hid (Right_new (cf8 n) rfl rfl (wf8 n ⟨n0, n1⟩) true (by rw [rt8]; exact iff_of_true rfl (by omega)) h)
  have f0 : (n == -1) = true := by simp [h]
  clear h
  go_enter Try.func7, Try.ntmps7
  go_wp2_with fail
  refine Hh.out.mono ?_
  rintro e w1 ⟨rfl, hO⟩
  have HO := Lib.hid hO
  clear hO Hh
  go_wp2_with fail
  refine (HBase _ HO.out).out.mono ?_
  rintro e w2 ⟨g, k, rfl, hO⟩
  have HO2 := Lib.hid hO.drop.drop
  clear hO HO HBase
  go_wp2_with fail
  refine (HR _ HO2.out).out.mono ?_
  rintro e w3 ⟨rfl, hB⟩
  have HO3 := Lib.hid hB
  clear hB HO2 HR
  go_wp2_with fail
  go_ret
  exact ⟨rfl, HO3.out⟩
set_option maxRecDepth 100000 in
set_option maxHeartbeats 2000000 in
theorem TreeBounds_8b (W : World) (x : Int) (x0 : 0 ≤ x) (x1 : x ≤ 255) (n : Int) (n0 : -9223372036854775808 ≤ n) (n1 : n ≤ 9223372036854775807) (hq : x % 9 = 8) (g0 : n ≠ -1) :
    Calls Try.prog 7 #[.int .u8 x, .int .i64 n] W fun e w' => e = .returned (.bool true) ∧ Below W.heap.size W w' := by
  have Hh := Lib.hid (head_any (Own.start W))
  have HBase := fun w (h : Own W (fun _ => False) [] w) => Lib.hid (Base_any h)
  have HR := fun w (h : Own W (fun _ => False) [] w) => Lib.hid (Right_new (cf8 n) rfl rfl (wf8 n ⟨n0, n1⟩) false (by rw [rt8]; exact iff_of_false (by decide) (by omega)) h)
  have f0 : (n == -1) = false := by simp [g0]
  clear g0
  go_enter Try.func7, Try.ntmps7
  go_wp2_with fail
  refine Hh.out.mono ?_
  rintro e w1 ⟨rfl, hO⟩
  have HO := Lib.hid hO
  clear hO Hh
  go_wp2_with fail
  refine (HBase _ HO.out).out.mono ?_
  rintro e w2 ⟨g, k, rfl, hO⟩
  have HO2 := Lib.hid hO.drop.drop
  clear hO HO HBase
  go_wp2_with fail
  refine (HR _ HO2.out).out.mono ?_
  rintro e w3 ⟨rfl, hB⟩
  have HO3 := Lib.hid hB
  clear hB HO2 HR
  go_wp2_with fail
  go_ret
  exact ⟨rfl, HO3.out⟩
end Go.Proofs.Ytnbifmkcdnfkhaa
