import Derived.Test.YtljimbkafijnnaaPackLaws
namespace Go.Proofs.Ytljimbkafijnnaa
open Go.ChangeShapes Go.WideShapes Go.ChangeAt Go.RowKit
set_option linter.unusedVariables false
theorem rVersion_any (a : Int) (ha : -9223372036854775808 ≤ a) (ha1 : a ≤ 9223372036854775807) (w : World) :
    Calls Try.prog 94 #[.int .i64 a] w fun e w' => e = .returned (.int .i64 (pver a)) ∧ w = w' := by
  have Hu := u64_bd a
  have H := Lib.hid (u64_eq a)
  go_enter Try.func94, Try.ntmps94
  go_wp2
  go_ret
  exact ⟨ret_int (by rw [H.out]; unfold pver; omega), rfl⟩
theorem rValue_any (a : Int) (ha : -9223372036854775808 ≤ a) (ha1 : a ≤ 9223372036854775807) (w : World) :
    Calls Try.prog 46 #[.int .i64 a] w fun e w' => e = .returned (.int .i64 (pval a)) ∧ w = w' := by
  have Hu := u64_bd a
  have H := Lib.hid (u64_eq a)
  by_cases h : 2147483648 ≤ IntKind.u64.wrap a % 4294967296
  · go_enter Try.func46, Try.ntmps46
    go_wp2
    go_ret
    exact ⟨ret_int (by rw [H.out]; rw [H.out] at h; unfold pval wrap32; omega), rfl⟩
  · have h' : IntKind.u64.wrap a % 4294967296 < 2147483648 := by omega
    clear h
    go_enter Try.func46, Try.ntmps46
    go_wp2
    go_ret
    exact ⟨ret_int (by rw [H.out]; rw [H.out] at h'; unfold pval wrap32; omega), rfl⟩
theorem rWord_yes (a b : Int) (h0 : 0 ≤ a) (h1 : a ≤ 4294967295) (h2 : -2147483648 ≤ b) (h3 : b ≤ 2147483647)  (w : World) :
    Calls Try.prog 95 #[.int .i64 a, .int .i64 b] w fun e w' => e = .returned (.tuple #[.int .i64 (sg (pmk a b)), .bool true]) ∧ w = w' := by
  have D1 : a < 4294967296 := by omega
  have D3 : b < 2147483648 := by omega
  have H := Lib.hid (or_pair a b h0 h1)
  go_enter Try.func95, Try.ntmps95
  go_wp2
  go_ret2
  exact ⟨by rw [H.out]; rfl, rfl⟩
theorem rWord_no (a b : Int) (h : ¬ (0 ≤ a ∧ a ≤ 4294967295 ∧ -2147483648 ≤ b ∧ b ≤ 2147483647)) (w : World) :
    Calls Try.prog 95 #[.int .i64 a, .int .i64 b] w fun e w' => e = .returned (.tuple #[.int .i64 0, .bool false]) ∧ w = w' := by
  have hc : a < 0 ∨ (0 ≤ a ∧ 4294967296 ≤ a) ∨ (0 ≤ a ∧ a < 4294967296 ∧ b < -2147483648) ∨ (0 ≤ a ∧ a < 4294967296 ∧ -2147483648 ≤ b ∧ 2147483648 ≤ b) := by omega
  clear h
  rcases hc with hc | ⟨hc, hd⟩ | ⟨hc, hd, he⟩ | ⟨hc, hd, he, hf⟩
  all_goals
    go_enter Try.func95, Try.ntmps95
    go_wp2
    go_ret2
    exact ⟨rfl, rfl⟩
theorem rNext_yes (a b : Int) (h2 : -2147483648 ≤ b) (h3 : b ≤ 2147483647) (ha : -9223372036854775808 ≤ a) (ha1 : a ≤ 9223372036854775807) (w : World) :
    Calls Try.prog 87 #[.int .i64 a, .int .i64 b] w fun e w' => e = .returned (.tuple #[.int .i64 (sg (pmk ((pver a + 1) % 4294967296) b)), .bool true]) ∧ w = w' := by
  have hv := pver_bd a
  by_cases hl : pver a = 4294967295
  · have H3 := Lib.hid (show (pver a + 1) % 4294967296 = 0 by omega)
    have F := beq_t (show pver a + 1 = 4294967296 by omega)
    clear hl
    go_enter Try.func87, Try.ntmps87
    go_wp2_with fail
    refine (rVersion_any _ (by omega) (by omega) _).mono ?_
    rintro e w' ⟨rfl, rfl⟩
    go_wp2_with fail
    refine (rWord_yes _ _ (by omega) (by omega) (by omega) (by omega) _).mono ?_
    rintro e w' ⟨rfl, rfl⟩
    go_wp2_with fail
    go_ret2
    exact ⟨by rw [H3.out]; rfl, rfl⟩
  · have H3 := Lib.hid (up_yes a hl)
    have F := beq_f (show pver a + 1 ≠ 4294967296 by omega)
    have hb : pver a + 1 ≤ 4294967295 := by omega
    clear hl
    go_enter Try.func87, Try.ntmps87
    go_wp2_with fail
    refine (rVersion_any _ (by omega) (by omega) _).mono ?_
    rintro e w' ⟨rfl, rfl⟩
    go_wp2_with fail
    refine (rWord_yes _ _ (by omega) (by omega) (by omega) (by omega) _).mono ?_
    rintro e w' ⟨rfl, rfl⟩
    go_wp2_with fail
    go_ret2
    exact ⟨by rw [H3.out]; rfl, rfl⟩
theorem rNext_no (a b : Int) (h : ¬ (-2147483648 ≤ b ∧ b ≤ 2147483647)) (ha : -9223372036854775808 ≤ a) (ha1 : a ≤ 9223372036854775807) (w : World) :
    Calls Try.prog 87 #[.int .i64 a, .int .i64 b] w fun e w' => e = .returned (.tuple #[.int .i64 0, .bool false]) ∧ w = w' := by
  have hv := pver_bd a
  have HN := fun x w => rWord_no x b (fun hh => h hh.2.2) w
  have HN' := Lib.hid HN
  clear h HN
  by_cases hl : pver a = 4294967295
  · have F := beq_t (show pver a + 1 = 4294967296 by omega)
    clear hl
    go_enter Try.func87, Try.ntmps87
    go_wp2_with fail
    refine (rVersion_any _ (by omega) (by omega) _).mono ?_
    rintro e w' ⟨rfl, rfl⟩
    go_wp2_with fail
    refine (HN'.out _ _).mono ?_
    rintro e w' ⟨rfl, rfl⟩
    go_wp2_with fail
    go_ret2
    exact ⟨rfl, rfl⟩
  · have F := beq_f (show pver a + 1 ≠ 4294967296 by omega)
    clear hl
    go_enter Try.func87, Try.ntmps87
    go_wp2_with fail
    refine (rVersion_any _ (by omega) (by omega) _).mono ?_
    rintro e w' ⟨rfl, rfl⟩
    go_wp2_with fail
    refine (HN'.out _ _).mono ?_
    rintro e w' ⟨rfl, rfl⟩
    go_wp2_with fail
    go_ret2
    exact ⟨rfl, rfl⟩
end Go.Proofs.Ytljimbkafijnnaa
