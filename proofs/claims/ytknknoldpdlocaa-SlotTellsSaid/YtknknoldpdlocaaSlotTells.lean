/- SlotTells. Written by tools/gen_slot.py. -/
import Derived.Test.YtknknoldpdlocaaSlotHead
namespace Go.Proofs.Ytknknoldpdlocaa
open Go.ChangeShapes Go.WideShapes Go.ChangeAt Go.RowKit
set_option linter.unusedVariables false
set_option linter.unusedSimpArgs false
set_option maxRecDepth 100000
theorem SlotTells_calls (W : World) (a : Int) (a0 : IntKind.i64.min ≤ a) (a1 : a ≤ IntKind.i64.max) (s : Int) (s0 : IntKind.i64.min ≤ s) (s1 : s ≤ IntKind.i64.max) (v : Int) (v0 : IntKind.i64.min ≤ v) (v1 : v ≤ IntKind.i64.max) (n : Int) (n0 : IntKind.i64.min ≤ n) (n1 : n ≤ IntKind.i64.max) (t : Int) (t0 : IntKind.i64.min ≤ t) (t1 : t ≤ IntKind.i64.max) (q : Int) (q0 : IntKind.u8.min ≤ q) (q1 : q ≤ IntKind.u8.max) :
    Calls Try.prog 3 #[.int .i64 a, .int .i64 s, .int .i64 v, .int .i64 n, .int .i64 t, .int .u8 q] W fun e w' => e = .returned (.bool true) ∧ Below W.heap.size W w' := by
  have a0 : -9223372036854775808 ≤ a := a0
  have a1 : a ≤ 9223372036854775807 := a1
  have s0 : -9223372036854775808 ≤ s := s0
  have s1 : s ≤ 9223372036854775807 := s1
  have v0 : -9223372036854775808 ≤ v := v0
  have v1 : v ≤ 9223372036854775807 := v1
  have n0 : -9223372036854775808 ≤ n := n0
  have n1 : n ≤ 9223372036854775807 := n1
  have t0 : -9223372036854775808 ≤ t := t0
  have t1 : t ≤ 9223372036854775807 := t1
  have q0 : 0 ≤ q := q0
  have q1 : q ≤ 255 := q1

  have Hh := fun w => Lib.hid (head10_any w)
  obtain ⟨k, hk⟩ : ∃ k : Int, q % 16 + 1 = k := ⟨_, rfl⟩
  have k0 : 1 ≤ k := by omega
  have k1 : k ≤ 16 := by omega
  have e1 : q.tmod 16 = k - 1 := by rw [Int.tmod_eq_emod_of_nonneg q0]; omega
  clear hk
  have HP0 := fun w => Lib.hid (sTurn_any a s ⟨a0, a1⟩ ⟨s0, s1⟩ w)
  have HR0 := fun w => Lib.hid (rTurn_any a s ⟨a0, a1⟩ ⟨s0, s1⟩ w)
  have HP1 := fun w => Lib.hid (sBody_any v n ⟨v0, v1⟩ ⟨n0, n1⟩ w)
  have HR1 := fun w => Lib.hid (rBody_any v n ⟨v0, v1⟩ ⟨n0, n1⟩ w)
  have HP2 := fun w => Lib.hid (sOf_any a ⟨a0, a1⟩ w)
  have HR2 := fun w => Lib.hid (rOf_any a ⟨a0, a1⟩ w)
  have HP3 := fun w => Lib.hid (sState_any a ⟨a0, a1⟩ w)
  have HR3 := fun w => Lib.hid (rState_any a ⟨a0, a1⟩ w)
  have HP4 := fun w => Lib.hid (sHandle_any t a ⟨t0, t1⟩ ⟨a0, a1⟩ w)
  have HR4 := fun w => Lib.hid (rHandle_any t a ⟨t0, t1⟩ ⟨a0, a1⟩ w)
  have HP5 := fun w => Lib.hid (sNamed_any a k ⟨a0, a1⟩ k0 k1 w)
  have HR5 := fun w => Lib.hid (rNamed_any a k ⟨a0, a1⟩ k0 k1 w)
  generalize tnV a s = X00 at HP0 HR0
  generalize tnB s = X01 at HP0 HR0
  generalize bdV v n = X10 at HP1 HR1
  generalize bdB v n = X11 at HP1 HR1
  generalize ofV a = X20 at HP2 HR2
  generalize ofN a = X21 at HP2 HR2
  generalize ofB a = X22 at HP2 HR2
  generalize stS a = X30 at HP3 HR3
  generalize hdV t a = X40 at HP4 HR4
  generalize hdB t = X41 at HP4 HR4
  generalize nmT a k = X50 at HP5 HR5
  generalize nmV a k = X51 at HP5 HR5
  generalize nmB a k = X52 at HP5 HR5
  clear a0 a1 s0 s1 v0 v1 n0 n1 t0 t1
  have ne00 : (X00 != X00) = false := by simp
  have eq00 : (X00 == X00) = true := by simp
  have ne01 : (X01 != X01) = false := by simp
  have eq01 : (X01 == X01) = true := by simp
  have ne10 : (X10 != X10) = false := by simp
  have eq10 : (X10 == X10) = true := by simp
  have ne11 : (X11 != X11) = false := by simp
  have eq11 : (X11 == X11) = true := by simp
  have ne20 : (X20 != X20) = false := by simp
  have eq20 : (X20 == X20) = true := by simp
  have ne21 : (X21 != X21) = false := by simp
  have eq21 : (X21 == X21) = true := by simp
  have ne22 : (X22 != X22) = false := by simp
  have eq22 : (X22 == X22) = true := by simp
  have ne30 : (X30 != X30) = false := by simp
  have eq30 : (X30 == X30) = true := by simp
  have ne40 : (X40 != X40) = false := by simp
  have eq40 : (X40 == X40) = true := by simp
  have ne41 : (X41 != X41) = false := by simp
  have eq41 : (X41 == X41) = true := by simp
  have ne50 : (X50 != X50) = false := by simp
  have eq50 : (X50 == X50) = true := by simp
  have ne51 : (X51 != X51) = false := by simp
  have eq51 : (X51 == X51) = true := by simp
  have ne52 : (X52 != X52) = false := by simp
  have eq52 : (X52 == X52) = true := by simp
  have e3 : k - 1 + 1 = k := by omega
  go_enter Try.func3, Try.ntmps3
  go_wp2_with fail
  refine (Hh _).out.mono ?_
  rintro e w' ⟨rfl, hb⟩
  have hS := hb
  clear hb
  go_wp2_with fail
  refine (HP0 _).out.mono ?_
  rintro e w' ⟨rfl, hb⟩
  have hS := smore hS hb
  clear hb
  go_wp2_with fail
  refine (HR0 _).out.mono ?_
  rintro e w' ⟨rfl, hb⟩
  have hS := smore hS hb
  clear hb
  go_wp2_with fail
  refine (HP1 _).out.mono ?_
  rintro e w' ⟨rfl, hb⟩
  have hS := smore hS hb
  clear hb
  go_wp2_with fail
  refine (HR1 _).out.mono ?_
  rintro e w' ⟨rfl, hb⟩
  have hS := smore hS hb
  clear hb
  go_wp2_with fail
  refine (HP2 _).out.mono ?_
  rintro e w' ⟨rfl, hb⟩
  have hS := smore hS hb
  clear hb
  go_wp2_with fail
  refine (HR2 _).out.mono ?_
  rintro e w' ⟨rfl, hb⟩
  have hS := smore hS hb
  clear hb
  go_wp2_with fail
  refine (HP3 _).out.mono ?_
  rintro e w' ⟨rfl, hb⟩
  have hS := smore hS hb
  clear hb
  go_wp2_with fail
  refine (HR3 _).out.mono ?_
  rintro e w' ⟨rfl, hb⟩
  have hS := smore hS hb
  clear hb
  go_wp2_with fail
  refine (HP4 _).out.mono ?_
  rintro e w' ⟨rfl, hb⟩
  have hS := smore hS hb
  clear hb
  go_wp2_with fail
  refine (HR4 _).out.mono ?_
  rintro e w' ⟨rfl, hb⟩
  have hS := smore hS hb
  clear hb
  go_wp2_with fail
  refine (HP5 _).out.mono ?_
  rintro e w' ⟨rfl, hb⟩
  have hS := smore hS hb
  clear hb
  go_wp2_with fail
  refine (HR5 _).out.mono ?_
  rintro e w' ⟨rfl, hb⟩
  have hS := smore hS hb
  clear hb
  go_wp2_with fail
  go_ret
  exact ⟨rfl, hS⟩
end Go.Proofs.Ytknknoldpdlocaa
