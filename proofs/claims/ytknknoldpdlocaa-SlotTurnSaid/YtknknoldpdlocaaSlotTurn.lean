/- SlotTurn. Written by tools/gen_slot.py. -/
import Derived.Test.YtknknoldpdlocaaSlotHead
namespace Go.Proofs.Ytknknoldpdlocaa
open Go.ChangeShapes Go.WideShapes Go.ChangeAt Go.RowKit
set_option linter.unusedVariables false
set_option linter.unusedSimpArgs false
set_option maxRecDepth 100000
theorem SlotTurn_calls (W : World) (a : Int) (a0 : IntKind.i64.min ≤ a) (a1 : a ≤ IntKind.i64.max) (q : Int) (q0 : IntKind.u8.min ≤ q) (q1 : q ≤ IntKind.u8.max) (r : Int) (r0 : IntKind.u8.min ≤ r) (r1 : r ≤ IntKind.u8.max) :
    Calls Try.prog 6 #[.int .i64 a, .int .u8 q, .int .u8 r] W fun e w' => e = .returned (.bool true) ∧ Below W.heap.size W w' := by
  have a0 : -9223372036854775808 ≤ a := a0
  have a1 : a ≤ 9223372036854775807 := a1
  have q0 : 0 ≤ q := q0
  have q1 : q ≤ 255 := q1
  have r0 : 0 ≤ r := r0
  have r1 : r ≤ 255 := r1

  have Hh := fun w => Lib.hid (head10_any w)
  obtain ⟨s, hs⟩ : ∃ s : Int, q % 4 = s := ⟨_, rfl⟩
  obtain ⟨k, hk⟩ : ∃ k : Int, r % 16 = k := ⟨_, rfl⟩
  have s0 : 0 ≤ s := by omega
  have s1 : s ≤ 3 := by omega
  have k0 : 0 ≤ k := by omega
  have k1 : k ≤ 15 := by omega
  have e1 : q.tmod 4 = s := by rw [Int.tmod_eq_emod_of_nonneg q0]; omega
  have e2 : r.tmod 16 = k := by rw [Int.tmod_eq_emod_of_nonneg r0]; omega
  clear hs hk
  have tb : tnB s = true := decide_eq_true ⟨s0, s1⟩
  have hb : hdB k = true := decide_eq_true ⟨k0, k1⟩
  have HT := fun w => Lib.hid (sTurn_any a s ⟨a0, a1⟩ (by unfold W64; omega) w)
  have HA := fun w => Lib.hid (sHandle_any k a (by unfold W64; omega) ⟨a0, a1⟩ w)
  have HB := fun w => Lib.hid (sHandle_any k (tnW a s) (by unfold W64; omega) (tnW_bd a s) w)
  have HN := fun w => Lib.hid (sTurn_any a (4 + q) ⟨a0, a1⟩ (by unfold W64; omega) w)
  have HS := fun w => Lib.hid (sState_any (tnW a s) (tnW_bd a s) w)
  rw [tn_st a s s0 s1] at HS
  have tf : tnB (4 + q) = false := decide_eq_false (by omega)
  rw [show tnV a (4 + q) = 0 from if_neg (by rw [tf]; decide), tf] at HN
  rw [show tnV a s = tnW a s from if_pos tb, tb] at HT
  rw [hb] at HA HB
  have n1 : (hdV k a != hdV k (tnW a s)) = true := by
    rw [bne_iff_ne]; intro e
    unfold hdV at e
    rw [if_pos hb, if_pos hb] at e
    exact tn_ver_ne a s (by omega)
  have n2 : (tnW a s != a) = true := by rw [bne_iff_ne]; exact tn_ne a s
  have n3 : (s == s) = true := by simp
  clear tb hb tf
  generalize hdV k a = A at HA n1
  generalize hdV k (tnW a s) = B at HB n1
  have HX := HB
  clear HB
  generalize tnW a s = X at HT HS n2 HX
  go_enter Try.func6, Try.ntmps6
  go_wp2_with fail
  refine (Hh _).out.mono ?_
  rintro e w' ⟨rfl, hb⟩
  have hS := hb
  clear hb
  go_wp2_with fail
  refine (HT _).out.mono ?_
  rintro e w' ⟨rfl, hb⟩
  have hS := smore hS hb
  clear hb
  go_wp2_with fail
  refine (HA _).out.mono ?_
  rintro e w' ⟨rfl, hb⟩
  have hS := smore hS hb
  clear hb
  go_wp2_with fail
  refine (HX _).out.mono ?_
  rintro e w' ⟨rfl, hb⟩
  have hS := smore hS hb
  clear hb
  go_wp2_with fail
  refine (HN _).out.mono ?_
  rintro e w' ⟨rfl, hb⟩
  have hS := smore hS hb
  clear hb
  go_wp2_with fail
  refine (HS _).out.mono ?_
  rintro e w' ⟨rfl, hb⟩
  have hS := smore hS hb
  clear hb
  go_wp2_with fail
  go_ret
  exact ⟨rfl, hS⟩
end Go.Proofs.Ytknknoldpdlocaa
