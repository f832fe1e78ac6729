/- SlotApart. Written by tools/gen_slot.py. -/
import Derived.Test.YtknknoldpdlocaaSlotHead
namespace Go.Proofs.Ytknknoldpdlocaa
open Go.ChangeShapes Go.WideShapes Go.ChangeAt Go.RowKit
set_option linter.unusedVariables false
set_option linter.unusedSimpArgs false
set_option maxRecDepth 100000
set_option maxHeartbeats 4000000 in
theorem SlotApart_calls (W : World) (t : Int) (t0 : IntKind.u8.min ≤ t) (t1 : t ≤ IntKind.u8.max) (u : Int) (u0 : IntKind.u8.min ≤ u) (u1 : u ≤ IntKind.u8.max) (v : Int) (v0 : IntKind.u32.min ≤ v) (v1 : v ≤ IntKind.u32.max) (y : Int) (y0 : IntKind.u32.min ≤ y) (y1 : y ≤ IntKind.u32.max) (m : Int) (m0 : IntKind.u32.min ≤ m) (m1 : m ≤ IntKind.u32.max) (n : Int) (n0 : IntKind.u32.min ≤ n) (n1 : n ≤ IntKind.u32.max) :
    Calls Try.prog 8 #[.int .u8 t, .int .u8 u, .int .u32 v, .int .u32 y, .int .u32 m, .int .u32 n] W fun e w' => e = .returned (.bool true) ∧ Below W.heap.size W w' := by
  have t0 : 0 ≤ t := t0
  have t1 : t ≤ 255 := t1
  have u0 : 0 ≤ u := u0
  have u1 : u ≤ 255 := u1
  have v0 : 0 ≤ v := v0
  have v1 : v ≤ 4294967295 := v1
  have y0 : 0 ≤ y := y0
  have y1 : y ≤ 4294967295 := y1
  have m0 : 0 ≤ m := m0
  have m1 : m ≤ 4294967295 := m1
  have n0 : 0 ≤ n := n0
  have n1 : n ≤ 4294967295 := n1

  have Hh := fun w => Lib.hid (head10_any w)
  obtain ⟨A, hA⟩ : ∃ A : Int, t % 16 = A := ⟨_, rfl⟩
  have A0 : 0 ≤ A := by omega
  have A1 : A < 16 := by omega
  have eA : t.tmod 16 = A := by rw [Int.tmod_eq_emod_of_nonneg t0]; omega
  obtain ⟨B, hB⟩ : ∃ B : Int, u % 16 = B := ⟨_, rfl⟩
  have B0 : 0 ≤ B := by omega
  have B1 : B < 16 := by omega
  have eB : u.tmod 16 = B := by rw [Int.tmod_eq_emod_of_nonneg u0]; omega
  obtain ⟨C, hC⟩ : ∃ C : Int, t % 12 = C := ⟨_, rfl⟩
  have C0 : 0 ≤ C := by omega
  have C1 : C < 12 := by omega
  have eC : t.tmod 12 = C := by rw [Int.tmod_eq_emod_of_nonneg t0]; omega
  obtain ⟨D, hD⟩ : ∃ D : Int, u % 12 = D := ⟨_, rfl⟩
  have D0 : 0 ≤ D := by omega
  have D1 : D < 12 := by omega
  have eD : u.tmod 12 = D := by rw [Int.tmod_eq_emod_of_nonneg u0]; omega
  obtain ⟨E, hE⟩ : ∃ E : Int, m % 1048576 = E := ⟨_, rfl⟩
  have E0 : 0 ≤ E := by omega
  have E1 : E < 1048576 := by omega
  have eE : m.tmod 1048576 = E := by rw [Int.tmod_eq_emod_of_nonneg m0]; omega
  obtain ⟨G, hG⟩ : ∃ G : Int, n % 1048576 = G := ⟨_, rfl⟩
  have G0 : 0 ≤ G := by omega
  have G1 : G < 1048576 := by omega
  have eG : n.tmod 1048576 = G := by rw [Int.tmod_eq_emod_of_nonneg n0]; omega
  have HX := fun w => Lib.hid (rWord_yes v 0 v0 v1 (by decide) (by decide) w)
  have HY := fun w => Lib.hid (rWord_yes y 0 y0 y1 (by decide) (by decide) w)
  have hA : hdB A = true := decide_eq_true (by omega)
  have hB : hdB B = true := decide_eq_true (by omega)
  have hC : bdB C (E + 1) = true := decide_eq_true (by omega)
  have hD : bdB D (G + 1) = true := decide_eq_true (by omega)
  have HA := fun w => Lib.hid (sHandle_any A (sg (pmk v 0)) (by unfold W64; omega) (sg_bd' _) w)
  have HB := fun w => Lib.hid (sHandle_any B (sg (pmk y 0)) (by unfold W64; omega) (sg_bd' _) w)
  have HC := fun w => Lib.hid (sBody_any C (E + 1) (by unfold W64; omega) (by unfold W64; omega) w)
  have HD := fun w => Lib.hid (sBody_any D (G + 1) (by unfold W64; omega) (by unfold W64; omega) w)
  have q1 : (hdV A (sg (pmk v 0)) == hdV B (sg (pmk y 0))) = (A == B && v == y) := by
    unfold hdV
    rw [if_pos hA, if_pos hB, pver_sg v 0 v0 v1, pver_sg y 0 y0 y1, Bool.eq_iff_iff]
    simp only [beq_iff_eq, Bool.and_eq_true]
    omega
  have q2 : (bdV C (E + 1) == bdV D (G + 1)) = (C == D && E == G) := by
    unfold bdV
    rw [if_pos hC, if_pos hD, Bool.eq_iff_iff]
    simp only [beq_iff_eq, Bool.and_eq_true]
    omega
  rw [hA] at HA
  rw [hB] at HB
  rw [hC] at HC
  rw [hD] at HD
  clear hA hB hC hD
  generalize hdV A (sg (pmk v 0)) = a at HA q1
  generalize hdV B (sg (pmk y 0)) = b at HB q1
  generalize sg (pmk v 0) = X at HX HA
  generalize sg (pmk y 0) = Y at HY HB
  generalize bdV C (E + 1) = c at HC q2
  generalize bdV D (G + 1) = d at HD q2
  have Q1 := Lib.hid q1
  have Q2 := Lib.hid q2
  clear q1 q2
  have r1 : (A == B) = true ∨ (A == B) = false := by cases (A == B) <;> simp
  have r2 : (v == y) = true ∨ (v == y) = false := by cases (v == y) <;> simp
  have r3 : (C == D) = true ∨ (C == D) = false := by cases (C == D) <;> simp
  have r4 : (E == G) = true ∨ (E == G) = false := by cases (E == G) <;> simp
  rcases r1 with r1 | r1 <;> rcases r2 with r2 | r2 <;> rcases r3 with r3 | r3 <;> rcases r4 with r4 | r4
  all_goals
    have z1 := Q1.out
    have z2 := Q2.out
    rw [r1, r2] at z1
    rw [r3, r4] at z2
    simp only [Bool.and_true, Bool.and_false, Bool.true_and, Bool.false_and] at z1 z2
    clear Q1 Q2
    go_enter Try.func8, Try.ntmps8
    go_wp2_with fail
    refine (Hh _).out.mono ?_
    rintro e w' ⟨rfl, hb⟩
    have hS := hb
    clear hb
    go_wp2_with fail
    refine (HX _).out.mono ?_
    rintro e w' ⟨rfl, rfl⟩
    go_wp2_with fail
    refine (HY _).out.mono ?_
    rintro e w' ⟨rfl, rfl⟩
    go_wp2_with fail
    refine (HA _).out.mono ?_
    rintro e w' ⟨rfl, hb⟩
    have hS := smore hS hb
    clear hb
    go_wp2_with fail
    refine (HB _).out.mono ?_
    rintro e w' ⟨rfl, hb⟩
    have hS := smore hS hb
    clear hb
    go_wp2_with fail
    refine (HC _).out.mono ?_
    rintro e w' ⟨rfl, hb⟩
    have hS := smore hS hb
    clear hb
    go_wp2_with fail
    refine (HD _).out.mono ?_
    rintro e w' ⟨rfl, hb⟩
    have hS := smore hS hb
    clear hb
    go_wp2_with fail
    go_ret
    exact ⟨rfl, hS⟩
end Go.Proofs.Ytknknoldpdlocaa
