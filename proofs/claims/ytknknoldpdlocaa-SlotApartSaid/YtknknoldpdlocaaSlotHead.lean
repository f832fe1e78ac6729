/- The laws of layer 10. Written by tools/gen_slot.py. -/
import Derived.Test.YtknknoldpdlocaaSlot
import Derived.Test.YtknknoldpdlocaaSlotRef
namespace Go.Proofs.Ytknknoldpdlocaa
open Go.ChangeShapes Go.WideShapes Go.ChangeAt Go.RowKit
set_option linter.unusedVariables false
set_option linter.unusedSimpArgs false
set_option maxRecDepth 100000
theorem smore {w w1 w2 : World} (h1 : Below w.heap.size w w1) (h2 : Below w1.heap.size w1 w2) : Below w.heap.size w w2 := h1.trans (h2.mono h1.size)
theorem sh_t1 (w : World) : Calls Try.prog 10 #[.int .i64 0, .int .i64 1] w fun e w' => e = .returned (.tuple #[.int .i64 4294967297, .bool true]) ∧ Below w.heap.size w w' := by
  have h := sTurn_any 0 1 (by unfold W64; decide) (by unfold W64; decide) w
  rw [show tnV 0 1 = 4294967297 from by decide +kernel, show tnB 1 = true from by decide +kernel] at h
  exact h
theorem sh_t2 (w : World) : Calls Try.prog 10 #[.int .i64 4294967297, .int .i64 2] w fun e w' => e = .returned (.tuple #[.int .i64 8589934594, .bool true]) ∧ Below w.heap.size w w' := by
  have h := sTurn_any 4294967297 2 (by unfold W64; decide) (by unfold W64; decide) w
  rw [show tnV 4294967297 2 = 8589934594 from by decide +kernel, show tnB 2 = true from by decide +kernel] at h
  exact h
theorem sh_h (w : World) : Calls Try.prog 18 #[.int .i64 3, .int .i64 8589934594] w fun e w' => e = .returned (.tuple #[.int .i64 35, .bool true]) ∧ Below w.heap.size w w' := by
  have h := sHandle_any 3 8589934594 (by unfold W64; decide) (by unfold W64; decide) w
  rw [show hdV 3 8589934594 = 35 from by decide +kernel, show hdB 3 = true from by decide +kernel] at h
  exact h
theorem sh_n1 (w : World) : Calls Try.prog 20 #[.int .i64 35, .int .i64 4] w fun e w' => e = .returned (.tuple #[.int .i64 3, .int .i64 2, .bool true]) ∧ Below w.heap.size w w' := by
  have h := sNamed_any 35 4 (by unfold W64; decide) (by decide) (by decide) w
  rw [show nmT 35 4 = 3 from by decide +kernel, show nmV 35 4 = 2 from by decide +kernel, show nmB 35 4 = true from by decide +kernel] at h
  exact h
theorem sh_n2 (w : World) : Calls Try.prog 20 #[.int .i64 35, .int .i64 3] w fun e w' => e = .returned (.tuple #[.int .i64 0, .int .i64 0, .bool false]) ∧ Below w.heap.size w w' := by
  have h := sNamed_any 35 3 (by unfold W64; decide) (by decide) (by decide) w
  rw [show nmT 35 3 = 0 from by decide +kernel, show nmV 35 3 = 0 from by decide +kernel, show nmB 35 3 = false from by decide +kernel] at h
  exact h
theorem sh_b (w : World) : Calls Try.prog 12 #[.int .i64 2, .int .i64 5] w fun e w' => e = .returned (.tuple #[.int .i64 4194309, .bool true]) ∧ Below w.heap.size w w' := by
  have h := sBody_any 2 5 (by unfold W64; decide) (by unfold W64; decide) w
  rw [show bdV 2 5 = 4194309 from by decide +kernel, show bdB 2 5 = true from by decide +kernel] at h
  exact h
theorem sh_o (w : World) : Calls Try.prog 14 #[.int .i64 4194309] w fun e w' => e = .returned (.tuple #[.int .i64 2, .int .i64 5, .bool true]) ∧ Below w.heap.size w w' := by
  have h := sOf_any 4194309 (by unfold W64; decide) w
  rw [show ofV 4194309 = 2 from by decide +kernel, show ofN 4194309 = 5 from by decide +kernel, show ofB 4194309 = true from by decide +kernel] at h
  exact h
theorem sh_s (w : World) : Calls Try.prog 16 #[.int .i64 8589934594] w fun e w' => e = .returned (.int .i64 2) ∧ Below w.heap.size w w' := by
  have h := sState_any 8589934594 (by unfold W64; decide) w
  rw [show stS 8589934594 = 2 from by decide +kernel] at h
  exact h
theorem sh_s7 (w : World) : Calls Try.prog 16 #[.int .i64 7] w fun e w' => e = .returned (.int .i64 (-1)) ∧ Below w.heap.size w w' := by
  have h := sState_any 7 (by unfold W64; decide) w
  rw [show stS 7 = (-1) from by decide +kernel] at h
  exact h
set_option maxHeartbeats 1000000 in
theorem head10_any (w : World) : Calls Try.prog 9 #[] w fun e w' => e = .returned (.bool true) ∧ Below w.heap.size w w' := by
  have Ht1 := fun w => Lib.hid (sh_t1 w)
  have Ht2 := fun w => Lib.hid (sh_t2 w)
  have Hh := fun w => Lib.hid (sh_h w)
  have Hn1 := fun w => Lib.hid (sh_n1 w)
  have Hn2 := fun w => Lib.hid (sh_n2 w)
  have Hb := fun w => Lib.hid (sh_b w)
  have Ho := fun w => Lib.hid (sh_o w)
  have Hs := fun w => Lib.hid (sh_s w)
  have Hs7 := fun w => Lib.hid (sh_s7 w)
  go_enter Try.func9, Try.ntmps9
  go_wp2_with fail
  refine (Ht1 _).out.mono ?_
  rintro e w' ⟨rfl, hb⟩
  have hS := hb
  clear hb
  go_wp2_with fail
  refine (Ht2 _).out.mono ?_
  rintro e w' ⟨rfl, hb⟩
  have hS := smore hS hb
  clear hb
  go_wp2_with fail
  refine (Hh _).out.mono ?_
  rintro e w' ⟨rfl, hb⟩
  have hS := smore hS hb
  clear hb
  go_wp2_with fail
  refine (Hn1 _).out.mono ?_
  rintro e w' ⟨rfl, hb⟩
  have hS := smore hS hb
  clear hb
  go_wp2_with fail
  refine (Hn2 _).out.mono ?_
  rintro e w' ⟨rfl, hb⟩
  have hS := smore hS hb
  clear hb
  go_wp2_with fail
  refine (Hb _).out.mono ?_
  rintro e w' ⟨rfl, hb⟩
  have hS := smore hS hb
  clear hb
  go_wp2_with fail
  refine (Ho _).out.mono ?_
  rintro e w' ⟨rfl, hb⟩
  have hS := smore hS hb
  clear hb
  go_wp2_with fail
  refine (Hs _).out.mono ?_
  rintro e w' ⟨rfl, hb⟩
  have hS := smore hS hb
  clear hb
  go_wp2_with fail
  refine (Hs7 _).out.mono ?_
  rintro e w' ⟨rfl, hb⟩
  have hS := smore hS hb
  clear hb
  go_wp2_with fail
  go_ret
  exact ⟨rfl, hS⟩
end Go.Proofs.Ytknknoldpdlocaa
