/- TreeBounds. Written by tools/gen_bounds.py. -/
import Derived.Test.YtnbifmkcdnfkhaaTreeBounds0
namespace Go.Proofs.Ytnbifmkcdnfkhaa
open Go.ChangeShapes Go.WideShapes Go.ChangeAt Go.RowKit Go.Shelf
set_option linter.unusedVariables false
set_option maxRecDepth 100000 in
set_option maxHeartbeats 2000000 in
theorem TreeBounds_3a (W : World) (x : Int) (x0 : 0 ≤ x) (x1 : x ≤ 255) (n : Int) (n0 : -9223372036854775808 ≤ n) (n1 : n ≤ 9223372036854775807) (hq : x % 9 = 3) (h : n < 0) :
    Calls Try.prog 7 #[.int .u8 x, .int .i64 n] W fun e w' => e = .returned (.bool true) ∧ Below W.heap.size W w' := by
  have Hh := Lib.hid (head_any (Own.start W))
  have HBase := fun w (h : Own W (fun _ => False) [] w) => Lib.hid (Base_any h)
  have HR := fun w (h : Own W (fun _ => False) [] w) => Lib.hid (Right_new (cf3 n) rfl rfl (wf3 n ⟨n0, n1⟩) false (by rw [rt3]; unfold Bd; exact iff_of_false (by decide) (by omega)) h)
  have f1 : decide (0 ≤ n) = false := by simp; omega
  go_enter Try.func7, Try.ntmps7
  go_wp2_with fail
  refine Hh.out.mono ?_
  rintro e w1 ⟨rfl, hO⟩
  have HO := Lib.hid hO
  clear hO Hh
  go_wp2_with fail
  refine (HBase _ HO.out).out.mono ?_
  rintro e w2 ⟨g, k, rfl, hO⟩
  have HO2 := Lib.hid hO.drop.drop
  clear hO HO HBase
  go_wp2_with fail
  refine (HR _ HO2.out).out.mono ?_
  rintro e w3 ⟨rfl, hB⟩
  have HO3 := Lib.hid hB
  clear hB HO2 HR
  go_wp2_with fail
  go_ret
  exact ⟨rfl, HO3.out⟩
set_option maxRecDepth 100000 in
set_option maxHeartbeats 2000000 in
theorem TreeBounds_3b (W : World) (x : Int) (x0 : 0 ≤ x) (x1 : x ≤ 255) (n : Int) (n0 : -9223372036854775808 ≤ n) (n1 : n ≤ 9223372036854775807) (hq : x % 9 = 3) (h : 0 ≤ n) (h2 : n ≤ 1048576) :
    Calls Try.prog 7 #[.int .u8 x, .int .i64 n] W fun e w' => e = .returned (.bool true) ∧ Below W.heap.size W w' := by
  have Hh := Lib.hid (head_any (Own.start W))
  have HBase := fun w (h : Own W (fun _ => False) [] w) => Lib.hid (Base_any h)
  have HR := fun w (h : Own W (fun _ => False) [] w) => Lib.hid (Right_new (cf3 n) rfl rfl (wf3 n ⟨n0, n1⟩) true (by rw [rt3]; unfold Bd; exact iff_of_true rfl (by omega)) h)
  go_enter Try.func7, Try.ntmps7
  go_wp2_with fail
  refine Hh.out.mono ?_
  rintro e w1 ⟨rfl, hO⟩
  have HO := Lib.hid hO
  clear hO Hh
  go_wp2_with fail
  refine (HBase _ HO.out).out.mono ?_
  rintro e w2 ⟨g, k, rfl, hO⟩
  have HO2 := Lib.hid hO.drop.drop
  clear hO HO HBase
  go_wp2_with fail
  refine (HR _ HO2.out).out.mono ?_
  rintro e w3 ⟨rfl, hB⟩
  have HO3 := Lib.hid hB
  clear hB HO2 HR
  go_wp2_with fail
  go_ret
  exact ⟨rfl, HO3.out⟩
set_option maxRecDepth 100000 in
set_option maxHeartbeats 2000000 in
theorem TreeBounds_3c (W : World) (x : Int) (x0 : 0 ≤ x) (x1 : x ≤ 255) (n : Int) (n0 : -9223372036854775808 ≤ n) (n1 : n ≤ 9223372036854775807) (hq : x % 9 = 3) (h : 0 ≤ n) (h2 : 1048576 < n) :
    Calls Try.prog 7 #[.int .u8 x, .int .i64 n] W fun e w' => e = .returned (.bool true) ∧ Below W.heap.size W w' := by
  have Hh := Lib.hid (head_any (Own.start W))
  have HBase := fun w (h : Own W (fun _ => False) [] w) => Lib.hid (Base_any h)
  have HR := fun w (h : Own W (fun _ => False) [] w) => Lib.hid (Right_new (cf3 n) rfl rfl (wf3 n ⟨n0, n1⟩) false (by rw [rt3]; unfold Bd; exact iff_of_false (by decide) (by omega)) h)
  have f1 : decide (n ≤ 1048576) = false := by simp; omega
  go_enter Try.func7, Try.ntmps7
  go_wp2_with fail
  refine Hh.out.mono ?_
  rintro e w1 ⟨rfl, hO⟩
  have HO := Lib.hid hO
  clear hO Hh
  go_wp2_with fail
  refine (HBase _ HO.out).out.mono ?_
  rintro e w2 ⟨g, k, rfl, hO⟩
  have HO2 := Lib.hid hO.drop.drop
  clear hO HO HBase
  go_wp2_with fail
  refine (HR _ HO2.out).out.mono ?_
  rintro e w3 ⟨rfl, hB⟩
  have HO3 := Lib.hid hB
  clear hB HO2 HR
  go_wp2_with fail
  go_ret
  exact ⟨rfl, HO3.out⟩
set_option maxRecDepth 100000 in
set_option maxHeartbeats 2000000 in
theorem TreeBounds_4a (W : World) (x : Int) (x0 : 0 ≤ x) (x1 : x ≤ 255) (n : Int) (n0 : -9223372036854775808 ≤ n) (n1 : n ≤ 9223372036854775807) (hq : x % 9 = 4) (h : n < 1) :
    Calls Try.prog 7 #[.int .u8 x, .int .i64 n] W fun e w' => e = .returned (.bool true) ∧ Below W.heap.size W w' := by
  have Hh := Lib.hid (head_any (Own.start W))
  have HBase := fun w (h : Own W (fun _ => False) [] w) => Lib.hid (Base_any h)
  have HR := fun w (h : Own W (fun _ => False) [] w) => Lib.hid (Right_new (cf4 n) rfl rfl (wf4 n ⟨n0, n1⟩) false (by rw [rt4]; unfold Bd; exact iff_of_false (by decide) (by omega)) h)
  have f1 : decide (1 ≤ n) = false := by simp; omega
  go_enter Try.func7, Try.ntmps7
  go_wp2_with fail
  refine Hh.out.mono ?_
  rintro e w1 ⟨rfl, hO⟩
  have HO := Lib.hid hO
  clear hO Hh
  go_wp2_with fail
  refine (HBase _ HO.out).out.mono ?_
  rintro e w2 ⟨g, k, rfl, hO⟩
  have HO2 := Lib.hid hO.drop.drop
  clear hO HO HBase
  go_wp2_with fail
  refine (HR _ HO2.out).out.mono ?_
  rintro e w3 ⟨rfl, hB⟩
  have HO3 := Lib.hid hB
  clear hB HO2 HR
  go_wp2_with fail
  go_ret
  exact ⟨rfl, HO3.out⟩
set_option maxRecDepth 100000 in
set_option maxHeartbeats 2000000 in
theorem TreeBounds_4b (W : World) (x : Int) (x0 : 0 ≤ x) (x1 : x ≤ 255) (n : Int) (n0 : -9223372036854775808 ≤ n) (n1 : n ≤ 9223372036854775807) (hq : x % 9 = 4) (h : 1 ≤ n) (h2 : n ≤ 8) :
    Calls Try.prog 7 #[.int .u8 x, .int .i64 n] W fun e w' => e = .returned (.bool true) ∧ Below W.heap.size W w' := by
  have Hh := Lib.hid (head_any (Own.start W))
  have HBase := fun w (h : Own W (fun _ => False) [] w) => Lib.hid (Base_any h)
  have HR := fun w (h : Own W (fun _ => False) [] w) => Lib.hid (Right_new (cf4 n) rfl rfl (wf4 n ⟨n0, n1⟩) true (by rw [rt4]; unfold Bd; exact iff_of_true rfl (by omega)) h)
  go_enter Try.func7, Try.ntmps7
  go_wp2_with fail
  refine Hh.out.mono ?_
  rintro e w1 ⟨rfl, hO⟩
  have HO := Lib.hid hO
  clear hO Hh
  go_wp2_with fail
  refine (HBase _ HO.out).out.mono ?_
  rintro e w2 ⟨g, k, rfl, hO⟩
  have HO2 := Lib.hid hO.drop.drop
  clear hO HO HBase
  go_wp2_with fail
  refine (HR _ HO2.out).out.mono ?_
  rintro e w3 ⟨rfl, hB⟩
  have HO3 := Lib.hid hB
  clear hB HO2 HR
  go_wp2_with fail
  go_ret
  exact ⟨rfl, HO3.out⟩
set_option maxRecDepth 100000 in
set_option maxHeartbeats 2000000 in
theorem TreeBounds_4c (W : World) (x : Int) (x0 : 0 ≤ x) (x1 : x ≤ 255) (n : Int) (n0 : -9223372036854775808 ≤ n) (n1 : n ≤ 9223372036854775807) (hq : x % 9 = 4) (h : 1 ≤ n) (h2 : 8 < n) :
    Calls Try.prog 7 #[.int .u8 x, .int .i64 n] W fun e w' => e = .returned (.bool true) ∧ Below W.heap.size W w' := by
  have Hh := Lib.hid (head_any (Own.start W))
  have HBase := fun w (h : Own W (fun _ => False) [] w) => Lib.hid (Base_any h)
  have HR := fun w (h : Own W (fun _ => False) [] w) => Lib.hid (Right_new (cf4 n) rfl rfl (wf4 n ⟨n0, n1⟩) false (by rw [rt4]; unfold Bd; exact iff_of_false (by decide) (by omega)) h)
  have f1 : decide (n ≤ 8) = false := by simp; omega
  go_enter Try.func7, Try.ntmps7
  go_wp2_with fail
  refine Hh.out.mono ?_
  rintro e w1 ⟨rfl, hO⟩
  have HO := Lib.hid hO
  clear hO Hh
  go_wp2_with fail
  refine (HBase _ HO.out).out.mono ?_
  rintro e w2 ⟨g, k, rfl, hO⟩
  have HO2 := Lib.hid hO.drop.drop
  clear hO HO HBase
  go_wp2_with fail
  refine (HR _ HO2.out).out.mono ?_
  rintro e w3 ⟨rfl, hB⟩
  have HO3 := Lib.hid hB
  clear hB HO2 HR
  go_wp2_with fail
  go_ret
  exact ⟨rfl, HO3.out⟩
set_option maxRecDepth 100000 in
set_option maxHeartbeats 2000000 in
theorem TreeBounds_5a (W : World) (x : Int) (x0 : 0 ≤ x) (x1 : x ≤ 255) (n : Int) (n0 : -9223372036854775808 ≤ n) (n1 : n ≤ 9223372036854775807) (hq : x % 9 = 5) (h : n < 1) :
    Calls Try.prog 7 #[.int .u8 x, .int .i64 n] W fun e w' => e = .returned (.bool true) ∧ Below W.heap.size W w' := by
  have Hh := Lib.hid (head_any (Own.start W))
  have HBase := fun w (h : Own W (fun _ => False) [] w) => Lib.hid (Base_any h)
  have HR := fun w (h : Own W (fun _ => False) [] w) => Lib.hid (Right_new (cf5 n) rfl rfl (wf5 n ⟨n0, n1⟩) false (by rw [rt5]; unfold Bd; exact iff_of_false (by decide) (by omega)) h)
  have f1 : decide (1 ≤ n) = false := by simp; omega
  go_enter Try.func7, Try.ntmps7
  go_wp2_with fail
  refine Hh.out.mono ?_
  rintro e w1 ⟨rfl, hO⟩
  have HO := Lib.hid hO
  clear hO Hh
  go_wp2_with fail
  refine (HBase _ HO.out).out.mono ?_
  rintro e w2 ⟨g, k, rfl, hO⟩
  have HO2 := Lib.hid hO.drop.drop
  clear hO HO HBase
  go_wp2_with fail
  refine (HR _ HO2.out).out.mono ?_
  rintro e w3 ⟨rfl, hB⟩
  have HO3 := Lib.hid hB
  clear hB HO2 HR
  go_wp2_with fail
  go_ret
  exact ⟨rfl, HO3.out⟩
set_option maxRecDepth 100000 in
set_option maxHeartbeats 2000000 in
theorem TreeBounds_5b (W : World) (x : Int) (x0 : 0 ≤ x) (x1 : x ≤ 255) (n : Int) (n0 : -9223372036854775808 ≤ n) (n1 : n ≤ 9223372036854775807) (hq : x % 9 = 5) (h : 1 ≤ n) (h2 : n ≤ 16) :
    Calls Try.prog 7 #[.int .u8 x, .int .i64 n] W fun e w' => e = .returned (.bool true) ∧ Below W.heap.size W w' := by
  have Hh := Lib.hid (head_any (Own.start W))
  have HBase := fun w (h : Own W (fun _ => False) [] w) => Lib.hid (Base_any h)
  have HR := fun w (h : Own W (fun _ => False) [] w) => Lib.hid (Right_new (cf5 n) rfl rfl (wf5 n ⟨n0, n1⟩) true (by rw [rt5]; unfold Bd; exact iff_of_true rfl (by omega)) h)
  go_enter Try.func7, Try.ntmps7
  go_wp2_with fail
  refine Hh.out.mono ?_
  rintro e w1 ⟨rfl, hO⟩
  have HO := Lib.hid hO
  clear hO Hh
  go_wp2_with fail
  refine (HBase _ HO.out).out.mono ?_
  rintro e w2 ⟨g, k, rfl, hO⟩
  have HO2 := Lib.hid hO.drop.drop
  clear hO HO HBase
  go_wp2_with fail
  refine (HR _ HO2.out).out.mono ?_
  rintro e w3 ⟨rfl, hB⟩
  have HO3 := Lib.hid hB
  clear hB HO2 HR
  go_wp2_with fail
  go_ret
  exact ⟨rfl, HO3.out⟩
set_option maxRecDepth 100000 in
set_option maxHeartbeats 2000000 in
theorem TreeBounds_5c (W : World) (x : Int) (x0 : 0 ≤ x) (x1 : x ≤ 255) (n : Int) (n0 : -9223372036854775808 ≤ n) (n1 : n ≤ 9223372036854775807) (hq : x % 9 = 5) (h : 1 ≤ n) (h2 : 16 < n) :
    Calls Try.prog 7 #[.int .u8 x, .int .i64 n] W fun e w' => e = .returned (.bool true) ∧ Below W.heap.size W w' := by
  have Hh := Lib.hid (head_any (Own.start W))
  have HBase := fun w (h : Own W (fun _ => False) [] w) => Lib.hid (Base_any h)
  have HR := fun w (h : Own W (fun _ => False) [] w) => Lib.hid (Right_new (cf5 n) rfl rfl (wf5 n ⟨n0, n1⟩) false (by rw [rt5]; unfold Bd; exact iff_of_false (by decide) (by omega)) h)
  have f1 : decide (n ≤ 16) = false := by simp; omega
  go_enter Try.func7, Try.ntmps7
  go_wp2_with fail
  refine Hh.out.mono ?_
  rintro e w1 ⟨rfl, hO⟩
  have HO := Lib.hid hO
  clear hO Hh
  go_wp2_with fail
  refine (HBase _ HO.out).out.mono ?_
  rintro e w2 ⟨g, k, rfl, hO⟩
  have HO2 := Lib.hid hO.drop.drop
  clear hO HO HBase
  go_wp2_with fail
  refine (HR _ HO2.out).out.mono ?_
  rintro e w3 ⟨rfl, hB⟩
  have HO3 := Lib.hid hB
  clear hB HO2 HR
  go_wp2_with fail
  go_ret
  exact ⟨rfl, HO3.out⟩
end Go.Proofs.Ytnbifmkcdnfkhaa
