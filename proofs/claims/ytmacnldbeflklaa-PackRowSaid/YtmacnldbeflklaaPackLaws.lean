import Derived.Test.YtmacnldbeflklaaPack
namespace Go.Proofs.Ytmacnldbeflklaa
open Go.ChangeShapes Go.WideShapes Go.ChangeAt Go.RowKit
set_option linter.unusedVariables false
theorem head_w (w : World) : Calls Try.prog 10 #[.int .i64 1, .int .i64 (-1)] w fun e w' => e = .returned (.tuple #[.int .i64 8589934591, .bool true]) ∧ w = w' := by
  have h := word_yes 1 (-1) (by decide) (by decide) (by decide) (by decide) w
  rw [show sg (pmk 1 (-1)) = 8589934591 from by unfold sg pmk wrap64; omega] at h; exact h
theorem head_n (w : World) : Calls Try.prog 10 #[.int .i64 (-1), .int .i64 0] w fun e w' => e = .returned (.tuple #[.int .i64 0, .bool false]) ∧ w = w' := word_no (-1) 0 (by decide) (by decide) (by decide) (by decide) (by decide) w
theorem head_x (w : World) : Calls Try.prog 12 #[.int .i64 8589934591, .int .i64 5] w fun e w' => e = .returned (.tuple #[.int .i64 8589934597, .bool true]) ∧ w = w' := by
  have h := Next_yes 8589934591 5 (by decide) (by decide) (by decide) (by decide) w
  rw [show sg (pmk ((pver 8589934591 + 1) % 4294967296) 5) = 8589934597 from by unfold sg pmk pver wrap64; omega] at h; exact h
theorem head_y (w : World) : Calls Try.prog 12 #[.int .i64 (-1), .int .i64 7] w fun e w' => e = .returned (.tuple #[.int .i64 7, .bool true]) ∧ w = w' := by
  have h := Next_yes (-1) 7 (by decide) (by decide) (by decide) (by decide) w
  rw [show sg (pmk ((pver (-1) + 1) % 4294967296) 7) = 7 from by unfold sg pmk pver wrap64; omega] at h; exact h
theorem head_v (w : World) : Calls Try.prog 14 #[.int .i64 8589934591] w fun e w' => e = .returned (.int .i64 1) ∧ w = w' := by
  have h := Version_any 8589934591 (by decide) (by decide) w
  rw [show pver 8589934591 = 1 from by unfold pver; omega] at h; exact h
theorem head_u (w : World) : Calls Try.prog 16 #[.int .i64 8589934591] w fun e w' => e = .returned (.int .i64 (-1)) ∧ w = w' := by
  have h := Value_any 8589934591 (by decide) (by decide) w
  rw [show pval 8589934591 = -1 from by unfold pval wrap32; omega] at h; exact h
theorem head_any (w : World) : Calls Try.prog 9 #[] w fun e w' => e = .returned (.bool true) ∧ w = w' := by
  go_enter Try.func9, Try.ntmps9
  go_wp2_with fail
  refine (head_w _).mono ?_
  rintro e w' ⟨rfl, rfl⟩
  go_wp2_with fail
  refine (head_n _).mono ?_
  rintro e w' ⟨rfl, rfl⟩
  go_wp2_with fail
  refine (head_x _).mono ?_
  rintro e w' ⟨rfl, rfl⟩
  go_wp2_with fail
  refine (head_y _).mono ?_
  rintro e w' ⟨rfl, rfl⟩
  go_wp2_with fail
  refine (head_v _).mono ?_
  rintro e w' ⟨rfl, rfl⟩
  go_wp2_with fail
  refine (head_u _).mono ?_
  rintro e w' ⟨rfl, rfl⟩
  go_wp2_with fail
  go_ret
  exact ⟨rfl, rfl⟩

theorem sg_pver (a b : Int) (h0 : 0 ≤ a) (h1 : a ≤ 4294967295) (h2 : -2147483648 ≤ b) (h3 : b ≤ 2147483647) : pver (sg (pmk a b)) = a := by unfold pver sg pmk wrap64; omega
theorem sg_pval (a b : Int) (h0 : 0 ≤ a) (h1 : a ≤ 4294967295) (h2 : -2147483648 ≤ b) (h3 : b ≤ 2147483647) : pval (sg (pmk a b)) = b := by unfold pval sg pmk wrap64 wrap32; omega
theorem sg_mk (w : Int) (h0 : -9223372036854775808 ≤ w) (h1 : w ≤ 9223372036854775807) : sg (pmk (pver w) (pval w)) = w := by unfold pval pver sg pmk wrap64 wrap32; omega
theorem sg_bd (n : Int) : -9223372036854775808 ≤ sg n ∧ sg n ≤ 9223372036854775807 := by unfold sg wrap64; omega

theorem PackWord_walk (a0 : Int) (l0 : -9223372036854775808 ≤ a0) (l1 : a0 ≤ 9223372036854775807) (w : World) :
    Calls Try.prog 5 #[.int .i64 a0] w fun e w' => e = .returned (.bool true) ∧ w = w' := by
  have hv := pver_bd a0
  have hx := pval_bd a0
  have hm := Lib.hid (sg_mk a0 l0 l1)
  go_enter Try.func5, Try.ntmps5
  go_wp2_with fail
  refine (head_any _).mono ?_
  rintro e w' ⟨rfl, rfl⟩
  go_wp2_with fail
  refine (Version_any _ l0 l1 _).mono ?_
  rintro e w' ⟨rfl, rfl⟩
  go_wp2_with fail
  refine (Value_any _ l0 l1 _).mono ?_
  rintro e w' ⟨rfl, rfl⟩
  go_wp2_with fail
  refine (word_yes _ _ (by omega) (by omega) (by omega) (by omega) _).mono ?_
  rintro e w' ⟨rfl, rfl⟩
  rw [hm.out]
  go_wp2_with fail
  go_ret
  exact ⟨rfl, rfl⟩

theorem PackBack_walk (a0 a1 : Int) (l0 : -9223372036854775808 ≤ a0) (l1 : a0 ≤ 9223372036854775807) (m0 : -9223372036854775808 ≤ a1) (m1 : a1 ≤ 9223372036854775807) (w : World) :
    Calls Try.prog 4 #[.int .i64 a0, .int .i64 a1] w fun e w' => e = .returned (.bool true) ∧ w = w' := by
  by_cases h : 0 ≤ a0 ∧ a0 ≤ 4294967295 ∧ -2147483648 ≤ a1 ∧ a1 ≤ 2147483647
  · obtain ⟨h0, h1, h2, h3⟩ := h
    have H1 := Lib.hid (sg_pver a0 a1 h0 h1 h2 h3)
    have H2 := Lib.hid (sg_pval a0 a1 h0 h1 h2 h3)
    have hb := sg_bd (pmk a0 a1)
    have D1 : a0 < 4294967296 := by omega
    have D3 : a1 < 2147483648 := by omega
    go_enter Try.func4, Try.ntmps4
    go_wp2_with fail
    refine (head_any _).mono ?_
    rintro e w' ⟨rfl, rfl⟩
    go_wp2_with fail
    refine (word_yes _ _ (by omega) (by omega) (by omega) (by omega) _).mono ?_
    rintro e w' ⟨rfl, rfl⟩
    go_wp2_with fail
    refine (Version_any _ hb.1 hb.2 _).mono ?_
    rintro e w' ⟨rfl, rfl⟩
    rw [H1.out]
    go_wp2_with fail
    refine (Value_any _ hb.1 hb.2 _).mono ?_
    rintro e w' ⟨rfl, rfl⟩
    rw [H2.out]
    go_wp2_with fail
    go_ret
    exact ⟨rfl, rfl⟩
  · have hc : a0 < 0 ∨ 4294967295 < a0 ∨ (0 ≤ a0 ∧ a0 ≤ 4294967295 ∧ a1 < -2147483648) ∨ (0 ≤ a0 ∧ a0 ≤ 4294967295 ∧ 2147483647 < a1) := by omega
    have HN := Lib.hid (word_no a0 a1 h l0 l1 m0 m1)
    clear h
    rcases hc with hc | hc | ⟨hc, hd, he⟩ | ⟨hc, hd, he⟩
    all_goals
      go_enter Try.func4, Try.ntmps4
      go_wp2_with fail
      refine (head_any _).mono ?_
      rintro e w' ⟨rfl, rfl⟩
      go_wp2_with fail
      refine (HN.out _).mono ?_
      rintro e w' ⟨rfl, rfl⟩
      go_wp2_with fail
      go_ret
      exact ⟨rfl, rfl⟩

theorem beq_f {a b : Int} (h : a ≠ b) : (a == b) = false := by simp [h]
theorem beq_t {a b : Int} (h : a = b) : (a == b) = true := by simp [h]
theorem apart_of (a b : Int) (l0 : -9223372036854775808 ≤ a) (l1 : a ≤ 9223372036854775807) (m0 : -9223372036854775808 ≤ b) (m1 : b ≤ 9223372036854775807) (h : a ≠ b) (hp : pver a = pver b) : pval a ≠ pval b := by
  intro hv
  have h1 := sg_mk a l0 l1
  have h2 := sg_mk b m0 m1
  rw [hp, hv, h2] at h1
  exact h h1.symm
theorem PackApart_walk (a0 a1 : Int) (l0 : -9223372036854775808 ≤ a0) (l1 : a0 ≤ 9223372036854775807) (m0 : -9223372036854775808 ≤ a1) (m1 : a1 ≤ 9223372036854775807) (w : World) :
    Calls Try.prog 6 #[.int .i64 a0, .int .i64 a1] w fun e w' => e = .returned (.bool true) ∧ w = w' := by
  by_cases h : a0 = a1
  · subst h
    go_enter Try.func6, Try.ntmps6
    go_wp2_with fail
    refine (head_any _).mono ?_
    rintro e w' ⟨rfl, rfl⟩
    go_wp2_with fail
    refine (Version_any _ l0 l1 _).mono ?_
    rintro e w' ⟨rfl, rfl⟩
    go_wp2_with fail
    refine (Version_any _ l0 l1 _).mono ?_
    rintro e w' ⟨rfl, rfl⟩
    go_wp2_with fail
    refine (Value_any _ l0 l1 _).mono ?_
    rintro e w' ⟨rfl, rfl⟩
    go_wp2_with fail
    refine (Value_any _ l0 l1 _).mono ?_
    rintro e w' ⟨rfl, rfl⟩
    go_wp2_with fail
    go_ret
    exact ⟨rfl, rfl⟩
  · by_cases hp : pver a0 = pver a1
    · have F0 := beq_f h
      have F1 := beq_t hp
      have F2 := beq_f (apart_of a0 a1 l0 l1 m0 m1 h hp)
      clear h hp
      go_enter Try.func6, Try.ntmps6
      go_wp2_with fail
      refine (head_any _).mono ?_
      rintro e w' ⟨rfl, rfl⟩
      go_wp2_with fail
      refine (Version_any _ l0 l1 _).mono ?_
      rintro e w' ⟨rfl, rfl⟩
      go_wp2_with fail
      refine (Version_any _ m0 m1 _).mono ?_
      rintro e w' ⟨rfl, rfl⟩
      go_wp2_with fail
      refine (Value_any _ l0 l1 _).mono ?_
      rintro e w' ⟨rfl, rfl⟩
      go_wp2_with fail
      refine (Value_any _ m0 m1 _).mono ?_
      rintro e w' ⟨rfl, rfl⟩
      go_wp2_with fail
      go_ret
      exact ⟨rfl, rfl⟩
    · have F0 := beq_f h
      have F1 := beq_f hp
      clear h hp
      go_enter Try.func6, Try.ntmps6
      go_wp2_with fail
      refine (head_any _).mono ?_
      rintro e w' ⟨rfl, rfl⟩
      go_wp2_with fail
      refine (Version_any _ l0 l1 _).mono ?_
      rintro e w' ⟨rfl, rfl⟩
      go_wp2_with fail
      refine (Version_any _ m0 m1 _).mono ?_
      rintro e w' ⟨rfl, rfl⟩
      go_wp2_with fail
      go_ret
      exact ⟨rfl, rfl⟩

theorem up_yes (a : Int) (h : pver a ≠ 4294967295) : (pver a + 1) % 4294967296 = pver a + 1 := by have := pver_bd a; omega
theorem up_bd (a : Int) : 0 ≤ (pver a + 1) % 4294967296 ∧ (pver a + 1) % 4294967296 ≤ 4294967295 := by omega
theorem next_ne (a b : Int) (h2 : -2147483648 ≤ b) (h3 : b ≤ 2147483647) : (sg (pmk ((pver a + 1) % 4294967296) b) != a) = true := by
  apply bne_t; intro e
  have h := sg_pver ((pver a + 1) % 4294967296) b (up_bd a).1 (up_bd a).2 h2 h3
  rw [e] at h; have := pver_bd a; omega
theorem PackNext_walk (a0 a1 : Int) (l0 : -9223372036854775808 ≤ a0) (l1 : a0 ≤ 9223372036854775807) (m0 : -9223372036854775808 ≤ a1) (m1 : a1 ≤ 9223372036854775807) (w : World) :
    Calls Try.prog 7 #[.int .i64 a0, .int .i64 a1] w fun e w' => e = .returned (.bool true) ∧ w = w' := by
  by_cases h : -2147483648 ≤ a1 ∧ a1 ≤ 2147483647
  · obtain ⟨h2, h3⟩ := h
    have hu := up_bd a0
    have H1 := Lib.hid (sg_pver _ a1 hu.1 hu.2 h2 h3)
    have H2 := Lib.hid (sg_pval _ a1 hu.1 hu.2 h2 h3)
    have hb := sg_bd (pmk ((pver a0 + 1) % 4294967296) a1)
    have hv := pver_bd a0
    have D3 : a1 < 2147483648 := by omega
    have F := next_ne a0 a1 h2 h3
    by_cases hl : pver a0 = 4294967295
    · have H3 := Lib.hid (show (pver a0 + 1) % 4294967296 = 0 by omega)
      have F1 := beq_t hl
      have H13 := Lib.hid (H1.out.trans H3.out)
      clear hu
      have F2 := beq_f (show (0 : Int) ≠ pver a0 + 1 by omega)
      have F3 := Lib.hid hl
      clear hl
      go_enter Try.func7, Try.ntmps7
      go_wp2_with fail
      refine (head_any _).mono ?_
      rintro e w' ⟨rfl, rfl⟩
      go_wp2_with fail
      refine (Next_yes _ _ (by omega) (by omega) (by omega) (by omega) _).mono ?_
      rintro e w' ⟨rfl, rfl⟩
      go_wp2_with fail
      refine (Version_any _ l0 l1 _).mono ?_
      rintro e w' ⟨rfl, rfl⟩
      go_wp2_with fail
      refine (Value_any _ hb.1 hb.2 _).mono ?_
      rintro e w' ⟨rfl, rfl⟩
      rw [H2.out]
      go_wp2_with fail
      refine (Version_any _ hb.1 hb.2 _).mono ?_
      rintro e w' ⟨rfl, rfl⟩
      rw [H13.out]
      go_wp2_with fail
      refine (Version_any _ hb.1 hb.2 _).mono ?_
      rintro e w' ⟨rfl, rfl⟩
      rw [H13.out]
      go_wp2_with fail
      go_ret
      exact ⟨rfl, rfl⟩
    · have H3 := Lib.hid (up_yes a0 hl)
      have H13 := Lib.hid (H1.out.trans H3.out)
      clear hu hl
      go_enter Try.func7, Try.ntmps7
      go_wp2_with fail
      refine (head_any _).mono ?_
      rintro e w' ⟨rfl, rfl⟩
      go_wp2_with fail
      refine (Next_yes _ _ (by omega) (by omega) (by omega) (by omega) _).mono ?_
      rintro e w' ⟨rfl, rfl⟩
      go_wp2_with fail
      refine (Version_any _ l0 l1 _).mono ?_
      rintro e w' ⟨rfl, rfl⟩
      go_wp2_with fail
      refine (Value_any _ hb.1 hb.2 _).mono ?_
      rintro e w' ⟨rfl, rfl⟩
      rw [H2.out]
      go_wp2_with fail
      refine (Version_any _ hb.1 hb.2 _).mono ?_
      rintro e w' ⟨rfl, rfl⟩
      rw [H13.out]
      go_wp2_with fail
      go_ret
      exact ⟨rfl, rfl⟩
  · have HN := Lib.hid (Next_no a0 a1 h l0 l1 m0 m1)
    have hc : a1 < -2147483648 ∨ 2147483647 < a1 := by omega
    clear h
    rcases hc with hc | hc
    all_goals
      go_enter Try.func7, Try.ntmps7
      go_wp2_with fail
      refine (head_any _).mono ?_
      rintro e w' ⟨rfl, rfl⟩
      go_wp2_with fail
      refine (HN.out _).mono ?_
      rintro e w' ⟨rfl, rfl⟩
      go_wp2_with fail
      go_ret
      exact ⟨rfl, rfl⟩
end Go.Proofs.Ytmacnldbeflklaa
