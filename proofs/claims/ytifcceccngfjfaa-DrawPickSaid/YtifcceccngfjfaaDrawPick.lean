import Derived.Test.YtifcceccngfjfaaDrawLaws
namespace Go.Proofs.Ytifcceccngfjfaa
open Go.ChangeShapes Go.WideShapes Go.ChangeAt Go.RowKit
set_option linter.unusedVariables false
theorem pw_fact (x t : Int) (h0 : 0 ≤ x) (h1 : x ≤ 4294967295) (k0 : 0 ≤ t) : 1 ≤ wrap64 (2 ^ (t % 20).toNat) ∧ wrap64 (2 ^ (t % 20).toNat) ≤ 524288 ∧ bits .and .i64 x (wrap64 (2 ^ (t % 20).toNat) - 1) = x % wrap64 (2 ^ (t % 20).toNat) := by
  obtain ⟨n, hn⟩ : ∃ n, n = (t % 20).toNat := ⟨_, rfl⟩
  have hl : n ≤ 19 := by omega
  rw [← hn]
  have hp : (2 : Int) ^ n = ((2 ^ n : Nat) : Int) := by simp
  have h2 : (2 : Nat) ^ n ≤ 2 ^ 19 := Nat.pow_le_pow_right (by decide) hl
  have h3 : 1 ≤ (2 : Nat) ^ n := Nat.one_le_two_pow
  have hw : wrap64 ((2 : Int) ^ n) = 2 ^ n := by
    rw [hp]; unfold wrap64; omega
  rw [hw]
  refine ⟨by omega, by omega, ?_⟩
  exact bits_mask .i64 63 (by decide) (fun a h0 h1 => IntWalk.i64_in a (by omega)) n (by omega) x h0 (by omega)
theorem DrawPick_main (W : World) (x : Int) (h : 1 ≤ x ∧ x ≤ 4294967295) (m : Int) (k : 1 ≤ m ∧ m ≤ 1048576) (t : Int) (k0' : 0 ≤ t) (k1' : t ≤ 255) :
    Calls Try.prog 7 #[.int .i64 x, .int .i64 m, .int .u8 t] W fun e W' => e = .returned (.bool true) ∧ Below W.heap.size W W' := by
  have F1 : decide (m < 1) = false := decide_eq_false (by omega)
  have F2 : decide (1048576 < m) = false := decide_eq_false (by omega)
  have hm := Int.emod_nonneg x (show m ≠ 0 by omega)
  have hm2 := Int.emod_lt_of_pos x (show 0 < m by omega)
  obtain ⟨hp1, hp2, hp3⟩ := pw_fact x t (by omega) h.2 k0'
  have HP := Lib.hid hp3
  clear hp3
  have hxm : 0 ≤ x - x % m := by
    have e := Int.mul_ediv_add_emod x m
    have q : 0 ≤ m * (x / m) := Int.mul_nonneg (by omega) (Int.ediv_nonneg (by omega) (by omega))
    omega
  have HX := Lib.hid (show (x - x % m) % m = 0 from Int.emod_eq_zero_of_dvd (Int.dvd_self_sub_of_emod_eq rfl))
  go_enter Try.func7, Try.ntmps7
  go_wp2_with fail
  refine (head_any _).mono ?_
  rintro e w1 ⟨rfl, h1⟩
  go_wp2_with fail
  refine (good_yes _ h.1 h.2 _).mono ?_
  rintro e w' ⟨rfl, rfl⟩
  go_wp2_with fail
  refine (Pick_any _ _ (by omega) h.2 k.1 k.2 _).mono ?_
  rintro e w' ⟨rfl, rfl⟩
  go_wp2_with fail
  refine (Pick_any _ _ (by omega) h.2 (by omega) (by omega) _).mono ?_
  rintro e w' ⟨rfl, rfl⟩
  go_wp2_with fail
  generalize wrap64 (2 ^ (t % 20).toNat) = P at *
  refine (Pick_any _ P (by omega) h.2 hp1 (by omega) _).mono ?_
  rintro e w' ⟨rfl, rfl⟩
  have F4 := HP.out
  have F5 := HX.out
  go_wp2_with fail
  go_ret
  exact ⟨rfl, h1⟩
theorem DrawPick_calls (W : World) (x : Int) (l0 : IntKind.i64.min ≤ x) (l1 : x ≤ IntKind.i64.max) (m : Int) (m0 : IntKind.i64.min ≤ m) (m1 : m ≤ IntKind.i64.max) (t : Int) (k0 : IntKind.u8.min ≤ t) (k1 : t ≤ IntKind.u8.max) :
    Calls Try.prog 7 #[.int .i64 x, .int .i64 m, .int .u8 t] W fun e W' => e = .returned (.bool true) ∧ Below W.heap.size W W' := by
  have l0' : -9223372036854775808 ≤ x := l0
  have l1' : x ≤ 9223372036854775807 := l1
  have m0' : -9223372036854775808 ≤ m := m0
  have m1' : m ≤ 9223372036854775807 := m1
  have k0' : 0 ≤ t := k0
  have k1' : t ≤ 255 := k1
  clear l0 l1 m0 m1 k0 k1
  by_cases h : 1 ≤ x ∧ x ≤ 4294967295
  · by_cases k : 1 ≤ m ∧ m ≤ 1048576
    · exact DrawPick_main W x h m k t k0' k1'
    · have hc : m < 1 ∨ (1 ≤ m ∧ 1048576 < m) := by omega
      clear k
      rcases hc with hc | ⟨hc, hd⟩
      all_goals
        go_enter Try.func7, Try.ntmps7
        go_wp2_with fail
        refine (head_any _).mono ?_
        rintro e w1 ⟨rfl, h1⟩
        go_wp2_with fail
        refine (good_yes _ h.1 h.2 _).mono ?_
        rintro e w' ⟨rfl, rfl⟩
        go_wp2_with fail
        go_ret
        exact ⟨rfl, h1⟩
  · have HG := Lib.hid (good_no x h)
    clear h
    go_enter Try.func7, Try.ntmps7
    go_wp2_with fail
    refine (head_any _).mono ?_
    rintro e w1 ⟨rfl, h1⟩
    go_wp2_with fail
    refine (HG.out _).mono ?_
    rintro e w' ⟨rfl, rfl⟩
    go_wp2_with fail
    go_ret
    exact ⟨rfl, h1⟩
end Go.Proofs.Ytifcceccngfjfaa
