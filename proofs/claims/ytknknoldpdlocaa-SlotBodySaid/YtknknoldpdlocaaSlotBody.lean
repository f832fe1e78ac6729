/- SlotBody. Written by tools/gen_slot.py. -/
import Derived.Test.YtknknoldpdlocaaSlotHead
namespace Go.Proofs.Ytknknoldpdlocaa
open Go.ChangeShapes Go.WideShapes Go.ChangeAt Go.RowKit
set_option linter.unusedVariables false
set_option linter.unusedSimpArgs false
set_option maxRecDepth 100000
set_option maxHeartbeats 2000000 in
theorem SlotBody_yy (W : World) (v : Int) (v0 : -9223372036854775808 ≤ v) (v1 : v ≤ 9223372036854775807) (n : Int) (n0 : -9223372036854775808 ≤ n) (n1 : n ≤ 9223372036854775807) (a : Int) (a0 : -9223372036854775808 ≤ a) (a1 : a ≤ 9223372036854775807) (h1 : bdB v n = true) (h2 : ofB a = true) :
    Calls Try.prog 4 #[.int .i64 v, .int .i64 n, .int .i64 a] W fun e w' => e = .returned (.bool true) ∧ Below W.heap.size W w' := by
  have Hh := fun w => Lib.hid (head10_any w)
  have HB := fun w => Lib.hid (sBody_any v n ⟨v0, v1⟩ ⟨n0, n1⟩ w)
  have hbb := bd_of v n h1
  have HF := fun w => Lib.hid (sOf_any (bdV v n) (by unfold W64; have := bdV_bd v n; omega) w)
  rw [hbb.1, hbb.2.1, hbb.2.2] at HF
  rw [h1] at HB
  obtain ⟨g0, g1, g2, g3⟩ := of_decide_eq_true h1
  have g4 : v < 12 := by omega
  generalize bdV v n = A at HB HF
  clear hbb h1
  have qv : (v != v) = false := by simp
  have qn : (n != n) = false := by simp
  have hbo := of_bd a h2
  have HO := fun w => Lib.hid (sOf_any a ⟨a0, a1⟩ w)
  have HB2 := fun w => Lib.hid (sBody_any (ofV a) (ofN a) (by unfold W64; have := of_decide_eq_true hbo.1; omega) (by unfold W64; have := of_decide_eq_true hbo.1; omega) w)
  rw [hbo.1, hbo.2] at HB2
  rw [h2] at HO
  generalize ofV a = V at HO HB2
  generalize ofN a = M at HO HB2
  clear hbo h2
  have qa : (a == a) = true := by simp
  go_enter Try.func4, Try.ntmps4
  go_wp2_with fail
  refine (Hh _).out.mono ?_
  rintro e w' ⟨rfl, hb⟩
  have hS := hb
  clear hb
  go_wp2_with fail
  refine (HB _).out.mono ?_
  rintro e w' ⟨rfl, hb⟩
  have hS := smore hS hb
  clear hb
  go_wp2_with fail
  refine (HF _).out.mono ?_
  rintro e w' ⟨rfl, hb⟩
  have hS := smore hS hb
  clear hb
  go_wp2_with fail
  refine (HO _).out.mono ?_
  rintro e w' ⟨rfl, hb⟩
  have hS := smore hS hb
  clear hb
  go_wp2_with fail
  refine (HB2 _).out.mono ?_
  rintro e w' ⟨rfl, hb⟩
  have hS := smore hS hb
  clear hb
  go_wp2_with fail
  go_ret
  exact ⟨rfl, hS⟩
set_option maxHeartbeats 2000000 in
theorem SlotBody_ny (W : World) (v : Int) (v0 : -9223372036854775808 ≤ v) (v1 : v ≤ 9223372036854775807) (n : Int) (n0 : -9223372036854775808 ≤ n) (n1 : n ≤ 9223372036854775807) (a : Int) (a0 : -9223372036854775808 ≤ a) (a1 : a ≤ 9223372036854775807) (h1 : bdB v n = false) (h2 : ofB a = true) :
    Calls Try.prog 4 #[.int .i64 v, .int .i64 n, .int .i64 a] W fun e w' => e = .returned (.bool true) ∧ Below W.heap.size W w' := by
  have Hh := fun w => Lib.hid (head10_any w)
  have HB := fun w => Lib.hid (sBody_any v n ⟨v0, v1⟩ ⟨n0, n1⟩ w)
  have HF := fun w => Lib.hid (sOf_any 0 (by unfold W64; decide) w)
  rw [show ofV 0 = 0 from by decide +kernel, show ofN 0 = 0 from by decide +kernel, show ofB 0 = false from by decide +kernel] at HF
  rw [show bdV v n = 0 from if_neg (by rw [h1]; decide), h1] at HB
  have hg := of_decide_eq_false h1
  have hc : v < 0 ∨ (0 ≤ v ∧ 12 ≤ v) ∨ (0 ≤ v ∧ v < 12 ∧ n < 1) ∨ (0 ≤ v ∧ v < 12 ∧ 1 ≤ n ∧ 1048576 < n) := by omega
  clear hg h1
  have hbo := of_bd a h2
  have HO := fun w => Lib.hid (sOf_any a ⟨a0, a1⟩ w)
  have HB2 := fun w => Lib.hid (sBody_any (ofV a) (ofN a) (by unfold W64; have := of_decide_eq_true hbo.1; omega) (by unfold W64; have := of_decide_eq_true hbo.1; omega) w)
  rw [hbo.1, hbo.2] at HB2
  rw [h2] at HO
  generalize ofV a = V at HO HB2
  generalize ofN a = M at HO HB2
  clear hbo h2
  have qa : (a == a) = true := by simp
  rcases hc with hc | ⟨hc, hd⟩ | ⟨hc, hd, he⟩ | ⟨hc, hd, he, hf⟩
  all_goals
    go_enter Try.func4, Try.ntmps4
    go_wp2_with fail
    refine (Hh _).out.mono ?_
    rintro e w' ⟨rfl, hb⟩
    have hS := hb
    clear hb
    go_wp2_with fail
    refine (HB _).out.mono ?_
    rintro e w' ⟨rfl, hb⟩
    have hS := smore hS hb
    clear hb
    go_wp2_with fail
    refine (HF _).out.mono ?_
    rintro e w' ⟨rfl, hb⟩
    have hS := smore hS hb
    clear hb
    go_wp2_with fail
    refine (HO _).out.mono ?_
    rintro e w' ⟨rfl, hb⟩
    have hS := smore hS hb
    clear hb
    go_wp2_with fail
    refine (HB2 _).out.mono ?_
    rintro e w' ⟨rfl, hb⟩
    have hS := smore hS hb
    clear hb
    go_wp2_with fail
    go_ret
    exact ⟨rfl, hS⟩
set_option maxHeartbeats 2000000 in
theorem SlotBody_yn (W : World) (v : Int) (v0 : -9223372036854775808 ≤ v) (v1 : v ≤ 9223372036854775807) (n : Int) (n0 : -9223372036854775808 ≤ n) (n1 : n ≤ 9223372036854775807) (a : Int) (a0 : -9223372036854775808 ≤ a) (a1 : a ≤ 9223372036854775807) (h1 : bdB v n = true) (h2 : ofB a = false) :
    Calls Try.prog 4 #[.int .i64 v, .int .i64 n, .int .i64 a] W fun e w' => e = .returned (.bool true) ∧ Below W.heap.size W w' := by
  have Hh := fun w => Lib.hid (head10_any w)
  have HB := fun w => Lib.hid (sBody_any v n ⟨v0, v1⟩ ⟨n0, n1⟩ w)
  have hbb := bd_of v n h1
  have HF := fun w => Lib.hid (sOf_any (bdV v n) (by unfold W64; have := bdV_bd v n; omega) w)
  rw [hbb.1, hbb.2.1, hbb.2.2] at HF
  rw [h1] at HB
  obtain ⟨g0, g1, g2, g3⟩ := of_decide_eq_true h1
  have g4 : v < 12 := by omega
  generalize bdV v n = A at HB HF
  clear hbb h1
  have qv : (v != v) = false := by simp
  have qn : (n != n) = false := by simp
  have HO := fun w => Lib.hid (sOf_any a ⟨a0, a1⟩ w)
  rw [show ofV a = 0 from if_neg (by rw [h2]; decide), show ofN a = 0 from if_neg (by rw [h2]; decide), h2] at HO
  clear h2
  go_enter Try.func4, Try.ntmps4
  go_wp2_with fail
  refine (Hh _).out.mono ?_
  rintro e w' ⟨rfl, hb⟩
  have hS := hb
  clear hb
  go_wp2_with fail
  refine (HB _).out.mono ?_
  rintro e w' ⟨rfl, hb⟩
  have hS := smore hS hb
  clear hb
  go_wp2_with fail
  refine (HF _).out.mono ?_
  rintro e w' ⟨rfl, hb⟩
  have hS := smore hS hb
  clear hb
  go_wp2_with fail
  refine (HO _).out.mono ?_
  rintro e w' ⟨rfl, hb⟩
  have hS := smore hS hb
  clear hb
  go_wp2_with fail
  go_ret
  exact ⟨rfl, hS⟩
set_option maxHeartbeats 2000000 in
theorem SlotBody_nn (W : World) (v : Int) (v0 : -9223372036854775808 ≤ v) (v1 : v ≤ 9223372036854775807) (n : Int) (n0 : -9223372036854775808 ≤ n) (n1 : n ≤ 9223372036854775807) (a : Int) (a0 : -9223372036854775808 ≤ a) (a1 : a ≤ 9223372036854775807) (h1 : bdB v n = false) (h2 : ofB a = false) :
    Calls Try.prog 4 #[.int .i64 v, .int .i64 n, .int .i64 a] W fun e w' => e = .returned (.bool true) ∧ Below W.heap.size W w' := by
  have Hh := fun w => Lib.hid (head10_any w)
  have HB := fun w => Lib.hid (sBody_any v n ⟨v0, v1⟩ ⟨n0, n1⟩ w)
  have HF := fun w => Lib.hid (sOf_any 0 (by unfold W64; decide) w)
  rw [show ofV 0 = 0 from by decide +kernel, show ofN 0 = 0 from by decide +kernel, show ofB 0 = false from by decide +kernel] at HF
  rw [show bdV v n = 0 from if_neg (by rw [h1]; decide), h1] at HB
  have hg := of_decide_eq_false h1
  have hc : v < 0 ∨ (0 ≤ v ∧ 12 ≤ v) ∨ (0 ≤ v ∧ v < 12 ∧ n < 1) ∨ (0 ≤ v ∧ v < 12 ∧ 1 ≤ n ∧ 1048576 < n) := by omega
  clear hg h1
  have HO := fun w => Lib.hid (sOf_any a ⟨a0, a1⟩ w)
  rw [show ofV a = 0 from if_neg (by rw [h2]; decide), show ofN a = 0 from if_neg (by rw [h2]; decide), h2] at HO
  clear h2
  rcases hc with hc | ⟨hc, hd⟩ | ⟨hc, hd, he⟩ | ⟨hc, hd, he, hf⟩
  all_goals
    go_enter Try.func4, Try.ntmps4
    go_wp2_with fail
    refine (Hh _).out.mono ?_
    rintro e w' ⟨rfl, hb⟩
    have hS := hb
    clear hb
    go_wp2_with fail
    refine (HB _).out.mono ?_
    rintro e w' ⟨rfl, hb⟩
    have hS := smore hS hb
    clear hb
    go_wp2_with fail
    refine (HF _).out.mono ?_
    rintro e w' ⟨rfl, hb⟩
    have hS := smore hS hb
    clear hb
    go_wp2_with fail
    refine (HO _).out.mono ?_
    rintro e w' ⟨rfl, hb⟩
    have hS := smore hS hb
    clear hb
    go_wp2_with fail
    go_ret
    exact ⟨rfl, hS⟩
theorem SlotBody_calls (W : World) (v : Int) (v0 : IntKind.i64.min ≤ v) (v1 : v ≤ IntKind.i64.max) (n : Int) (n0 : IntKind.i64.min ≤ n) (n1 : n ≤ IntKind.i64.max) (a : Int) (a0 : IntKind.i64.min ≤ a) (a1 : a ≤ IntKind.i64.max) :
    Calls Try.prog 4 #[.int .i64 v, .int .i64 n, .int .i64 a] W fun e w' => e = .returned (.bool true) ∧ Below W.heap.size W w' := by
  have v0 : -9223372036854775808 ≤ v := v0
  have v1 : v ≤ 9223372036854775807 := v1
  have n0 : -9223372036854775808 ≤ n := n0
  have n1 : n ≤ 9223372036854775807 := n1
  have a0 : -9223372036854775808 ≤ a := a0
  have a1 : a ≤ 9223372036854775807 := a1

  cases h1 : bdB v n with
  | true =>
    cases h2 : ofB a with
    | true => exact SlotBody_yy W v v0 v1 n n0 n1 a a0 a1 h1 h2
    | false => exact SlotBody_yn W v v0 v1 n n0 n1 a a0 a1 h1 h2
  | false =>
    cases h2 : ofB a with
    | true => exact SlotBody_ny W v v0 v1 n n0 n1 a a0 a1 h1 h2
    | false => exact SlotBody_nn W v v0 v1 n n0 n1 a a0 a1 h1 h2
end Go.Proofs.Ytknknoldpdlocaa
