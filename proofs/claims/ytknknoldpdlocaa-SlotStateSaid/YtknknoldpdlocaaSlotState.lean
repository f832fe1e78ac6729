/- SlotState. Written by tools/gen_slot.py. -/
import Derived.Test.YtknknoldpdlocaaSlotHead
namespace Go.Proofs.Ytknknoldpdlocaa
open Go.ChangeShapes Go.WideShapes Go.ChangeAt Go.RowKit
set_option linter.unusedVariables false
set_option linter.unusedSimpArgs false
set_option maxRecDepth 100000
theorem SlotState_calls (W : World) (v : Int) (v0 : IntKind.u32.min ≤ v) (v1 : v ≤ IntKind.u32.max) (o : Int) (o0 : IntKind.u32.min ≤ o) (o1 : o ≤ IntKind.u32.max) (x : Int) (x0 : IntKind.i32.min ≤ x) (x1 : x ≤ IntKind.i32.max) :
    Calls Try.prog 7 #[.int .u32 v, .int .u32 o, .int .i32 x] W fun e w' => e = .returned (.bool true) ∧ Below W.heap.size W w' := by
  have v0 : 0 ≤ v := v0
  have v1 : v ≤ 4294967295 := v1
  have o0 : 0 ≤ o := o0
  have o1 : o ≤ 4294967295 := o1
  have x0 : -2147483648 ≤ x := x0
  have x1 : x ≤ 2147483647 := x1

  have Hh := fun w => Lib.hid (head10_any w)
  have HA := fun w => Lib.hid (rWord_yes v x v0 v1 x0 x1 w)
  have HB := fun w => Lib.hid (rWord_yes o x o0 o1 x0 x1 w)
  have HS := fun w => Lib.hid (sState_any (sg (pmk v x)) (sg_bd' _) w)
  have HT := fun w => Lib.hid (sState_any (sg (pmk o x)) (sg_bd' _) w)
  rw [stS_sg v x v0 v1 x0 x1] at HS
  rw [stS_sg o x o0 o1 x0 x1] at HT
  generalize sg (pmk v x) = A at HA HS
  generalize sg (pmk o x) = B at HB HT
  have qx : (x == x) = true := by simp
  by_cases hx : 0 ≤ x ∧ x ≤ 3
  · rw [if_pos hx] at HS HT
    obtain ⟨y0, y1⟩ := hx
    have qm : (x == -1) = false := by simp; omega
    have y2 : -1 ≤ x := by omega
    go_enter Try.func7, Try.ntmps7
    go_wp2_with fail
    refine (Hh _).out.mono ?_
    rintro e w' ⟨rfl, hb⟩
    have hS := hb
    clear hb
    go_wp2_with fail
    refine (HA _).out.mono ?_
    rintro e w' ⟨rfl, rfl⟩
    go_wp2_with fail
    refine (HB _).out.mono ?_
    rintro e w' ⟨rfl, rfl⟩
    go_wp2_with fail
    refine (HS _).out.mono ?_
    rintro e w' ⟨rfl, hb⟩
    have hS := smore hS hb
    clear hb
    go_wp2_with fail
    refine (HT _).out.mono ?_
    rintro e w' ⟨rfl, hb⟩
    have hS := smore hS hb
    clear hb
    go_wp2_with fail
    go_ret
    exact ⟨rfl, hS⟩
  · rw [if_neg hx] at HS HT
    have hc : x < 0 ∨ (0 ≤ x ∧ 3 < x) := by omega
    clear hx
    rcases hc with hc | ⟨hc, hd⟩
    · have d0 : decide (0 ≤ x) = false := decide_eq_false (by omega)
      go_enter Try.func7, Try.ntmps7
      go_wp2_with fail
      refine (Hh _).out.mono ?_
      rintro e w' ⟨rfl, hb⟩
      have hS := hb
      clear hb
      go_wp2_with fail
      refine (HA _).out.mono ?_
      rintro e w' ⟨rfl, rfl⟩
      go_wp2_with fail
      refine (HB _).out.mono ?_
      rintro e w' ⟨rfl, rfl⟩
      go_wp2_with fail
      refine (HS _).out.mono ?_
      rintro e w' ⟨rfl, hb⟩
      have hS := smore hS hb
      clear hb
      go_wp2_with fail
      refine (HT _).out.mono ?_
      rintro e w' ⟨rfl, hb⟩
      have hS := smore hS hb
      clear hb
      go_wp2_with fail
      go_ret
      exact ⟨rfl, hS⟩
    · have d1 : decide (x ≤ 3) = false := decide_eq_false (by omega)
      have d0 : decide (0 ≤ x) = true := decide_eq_true hc
      go_enter Try.func7, Try.ntmps7
      go_wp2_with fail
      refine (Hh _).out.mono ?_
      rintro e w' ⟨rfl, hb⟩
      have hS := hb
      clear hb
      go_wp2_with fail
      refine (HA _).out.mono ?_
      rintro e w' ⟨rfl, rfl⟩
      go_wp2_with fail
      refine (HB _).out.mono ?_
      rintro e w' ⟨rfl, rfl⟩
      go_wp2_with fail
      refine (HS _).out.mono ?_
      rintro e w' ⟨rfl, hb⟩
      have hS := smore hS hb
      clear hb
      go_wp2_with fail
      refine (HT _).out.mono ?_
      rintro e w' ⟨rfl, hb⟩
      have hS := smore hS hb
      clear hb
      go_wp2_with fail
      go_ret
      exact ⟨rfl, hS⟩
end Go.Proofs.Ytknknoldpdlocaa
