import Derived.Test.YtifcceccngfjfaaDrawLaws
namespace Go.Proofs.Ytifcceccngfjfaa
open Go.ChangeShapes Go.WideShapes Go.ChangeAt Go.RowKit
set_option linter.unusedVariables false
theorem DrawBits_calls (W : World) (x : Int) (l0 : IntKind.i64.min ≤ x) (l1 : x ≤ IntKind.i64.max) (y : Int) (m0 : IntKind.i64.min ≤ y) (m1 : y ≤ IntKind.i64.max) :
    Calls Try.prog 6 #[.int .i64 x, .int .i64 y] W fun e W' => e = .returned (.bool true) ∧ Below W.heap.size W W' := by
  have l0' : -9223372036854775808 ≤ x := l0
  have l1' : x ≤ 9223372036854775807 := l1
  have m0' : -9223372036854775808 ≤ y := m0
  have m1' : y ≤ 9223372036854775807 := m1
  clear l0 l1 m0 m1
  by_cases h : 1 ≤ x ∧ x ≤ 4294967295
  · by_cases k : 1 ≤ y ∧ y ≤ 4294967295
    · by_cases hxy : x = y
      · subst hxy
        go_enter Try.func6, Try.ntmps6
        go_wp2_with fail
        refine (head_any _).mono ?_
        rintro e w1 ⟨rfl, h1⟩
        go_wp2_with fail
        refine (good_yes _ h.1 h.2 _).mono ?_
        rintro e w' ⟨rfl, rfl⟩
        go_wp2_with fail
        refine (good_yes _ h.1 h.2 _).mono ?_
        rintro e w' ⟨rfl, rfl⟩
        go_wp2_with fail
        go_ret
        exact ⟨rfl, h1⟩
      · have hz := xor64_bd x y (by omega) h.2 (by omega) k.2 hxy
        have HF := Lib.hid (show (nx (dr (bits .xor .i64 x y)) == bits .xor .i64 (nx (dr x)) (nx (dr y))) = true by
          rw [dr_yes _ hz, dr_yes x h, dr_yes y k]
          exact beq_t (nx_xor x y h.1 h.2 k.1 k.2))
        have F0 := beq_f hxy
        clear hxy
        go_enter Try.func6, Try.ntmps6
        go_wp2_with fail
        refine (head_any _).mono ?_
        rintro e w1 ⟨rfl, h1⟩
        go_wp2_with fail
        refine (good_yes _ h.1 h.2 _).mono ?_
        rintro e w' ⟨rfl, rfl⟩
        go_wp2_with fail
        refine (good_yes _ k.1 k.2 _).mono ?_
        rintro e w' ⟨rfl, rfl⟩
        go_wp2_with fail
        refine (Next_any _ (by omega) (by omega) _).mono ?_
        rintro e w2 ⟨rfl, h2⟩
        have h12 := more h1 h2
        clear h1 h2
        go_wp2_with fail
        refine (Next_any _ l0' l1' _).mono ?_
        rintro e w3 ⟨rfl, h3⟩
        have h13 := more h12 h3
        clear h12 h3
        go_wp2_with fail
        refine (Next_any _ m0' m1' _).mono ?_
        rintro e w4 ⟨rfl, h4⟩
        have h14 := more h13 h4
        clear h13 h4
        have F := HF.out
        go_wp2_with fail
        go_ret
        exact ⟨rfl, h14⟩
    · have HG := Lib.hid (good_no y k)
      clear k
      go_enter Try.func6, Try.ntmps6
      go_wp2_with fail
      refine (head_any _).mono ?_
      rintro e w1 ⟨rfl, h1⟩
      go_wp2_with fail
      refine (good_yes _ h.1 h.2 _).mono ?_
      rintro e w' ⟨rfl, rfl⟩
      go_wp2_with fail
      refine (HG.out _).mono ?_
      rintro e w' ⟨rfl, rfl⟩
      go_wp2_with fail
      go_ret
      exact ⟨rfl, h1⟩
  · have HG := Lib.hid (good_no x h)
    clear h
    go_enter Try.func6, Try.ntmps6
    go_wp2_with fail
    refine (head_any _).mono ?_
    rintro e w1 ⟨rfl, h1⟩
    go_wp2_with fail
    refine (HG.out _).mono ?_
    rintro e w' ⟨rfl, rfl⟩
    go_wp2_with fail
    go_ret
    exact ⟨rfl, h1⟩
theorem DrawTells_calls (W : World) (x : Int) (l0 : IntKind.i64.min ≤ x) (l1 : x ≤ IntKind.i64.max) (t : Int) (k0 : IntKind.u16.min ≤ t) (k1 : t ≤ IntKind.u16.max) (m : Int) (m0 : IntKind.i64.min ≤ m) (m1 : m ≤ IntKind.i64.max) :
    Calls Try.prog 3 #[.int .i64 x, .int .u16 t, .int .i64 m] W fun e W' => e = .returned (.bool true) ∧ Below W.heap.size W W' := by
  have l0' : -9223372036854775808 ≤ x := l0
  have l1' : x ≤ 9223372036854775807 := l1
  have m0' : -9223372036854775808 ≤ m := m0
  have m1' : m ≤ 9223372036854775807 := m1
  have k0' : 0 ≤ t := k0
  have k1' : t ≤ 65535 := k1
  clear l0 l1 m0 m1 k0 k1
  by_cases h : 1 ≤ x ∧ x ≤ 4294967295
  · by_cases k : 1 ≤ m ∧ m ≤ 1048576
    · have F1 : decide (m < 1) = false := decide_eq_false (by omega)
      have F2 : decide (1048576 < m) = false := decide_eq_false (by omega)
      go_enter Try.func3, Try.ntmps3
      go_wp2_with fail
      refine (head_any _).mono ?_
      rintro e w1 ⟨rfl, h1⟩
      go_wp2_with fail
      refine (Next_any _ l0' l1' _).mono ?_
      rintro e w2 ⟨rfl, h2⟩
      have h12 := more h1 h2
      clear h1 h2
      go_wp2_with fail
      refine (rNext_any _ l0' l1' _).mono ?_
      rintro e w' ⟨rfl, rfl⟩
      go_wp2_with fail
      refine (Begin_any _ (by omega) (by omega) _).mono ?_
      rintro e w' ⟨rfl, rfl⟩
      go_wp2_with fail
      refine (rBegin_any _ (by omega) (by omega) _).mono ?_
      rintro e w' ⟨rfl, rfl⟩
      go_wp2_with fail
      refine (good_yes _ h.1 h.2 _).mono ?_
      rintro e w' ⟨rfl, rfl⟩
      go_wp2_with fail
      refine (Pick_any _ _ (by omega) h.2 k.1 k.2 _).mono ?_
      rintro e w' ⟨rfl, rfl⟩
      go_wp2_with fail
      refine (rPick_any _ _ (by omega) h.2 k.1 k.2 _).mono ?_
      rintro e w' ⟨rfl, rfl⟩
      go_wp2_with fail
      go_ret
      exact ⟨rfl, h12⟩
    · have hc : m < 1 ∨ (1 ≤ m ∧ 1048576 < m) := by omega
      clear k
      rcases hc with hc | ⟨hc, hd⟩
      all_goals
        go_enter Try.func3, Try.ntmps3
        go_wp2_with fail
        refine (head_any _).mono ?_
        rintro e w1 ⟨rfl, h1⟩
        go_wp2_with fail
        refine (Next_any _ l0' l1' _).mono ?_
        rintro e w2 ⟨rfl, h2⟩
        have h12 := more h1 h2
        clear h1 h2
        go_wp2_with fail
        refine (rNext_any _ l0' l1' _).mono ?_
        rintro e w' ⟨rfl, rfl⟩
        go_wp2_with fail
        refine (Begin_any _ (by omega) (by omega) _).mono ?_
        rintro e w' ⟨rfl, rfl⟩
        go_wp2_with fail
        refine (rBegin_any _ (by omega) (by omega) _).mono ?_
        rintro e w' ⟨rfl, rfl⟩
        go_wp2_with fail
        refine (good_yes _ h.1 h.2 _).mono ?_
        rintro e w' ⟨rfl, rfl⟩
        go_wp2_with fail
        go_ret
        exact ⟨rfl, h12⟩
  · have HG := Lib.hid (good_no x h)
    clear h
    go_enter Try.func3, Try.ntmps3
    go_wp2_with fail
    refine (head_any _).mono ?_
    rintro e w1 ⟨rfl, h1⟩
    go_wp2_with fail
    refine (Next_any _ l0' l1' _).mono ?_
    rintro e w2 ⟨rfl, h2⟩
    have h12 := more h1 h2
    clear h1 h2
    go_wp2_with fail
    refine (rNext_any _ l0' l1' _).mono ?_
    rintro e w' ⟨rfl, rfl⟩
    go_wp2_with fail
    refine (Begin_any _ (by omega) (by omega) _).mono ?_
    rintro e w' ⟨rfl, rfl⟩
    go_wp2_with fail
    refine (rBegin_any _ (by omega) (by omega) _).mono ?_
    rintro e w' ⟨rfl, rfl⟩
    go_wp2_with fail
    refine (HG.out _).mono ?_
    rintro e w' ⟨rfl, rfl⟩
    go_wp2_with fail
    go_ret
    exact ⟨rfl, h12⟩
end Go.Proofs.Ytifcceccngfjfaa
