import Derived.Test.YtifcceccngfjfaaDraw
import Derived.Test.YtifcceccngfjfaaLaw
namespace Go.Proofs.Ytifcceccngfjfaa
open Go.ChangeShapes Go.WideShapes Go.ChangeAt Go.RowKit
set_option linter.unusedVariables false
theorem more {w w1 w2 : World} (h1 : Below w.heap.size w w1) (h2 : Below w1.heap.size w1 w2) : Below w.heap.size w w2 := h1.trans (h2.mono h1.size)
theorem beq_f {a b : Int} (h : a ≠ b) : (a == b) = false := by simp [h]
theorem beq_t {a b : Int} (h : a = b) : (a == b) = true := by simp [h]
theorem nx_a : nx (dr 1) = 270369 := by decide +kernel
theorem nx_b : nx (dr 270369) = 67634689 := by decide +kernel
theorem nx_c : nx (dr 0) = 270369 := by decide +kernel
theorem bg_a : bg 0 = 2654435761 := by decide +kernel
theorem bg_b : bg 1 = 1013904226 := by decide +kernel
theorem head_next (x y : Int) (h : nx (dr x) = y) (l0 : -9223372036854775808 ≤ x) (l1 : x ≤ 9223372036854775807) (w : World) :
    Calls Try.prog 10 #[.int .i64 x] w fun e w' => e = .returned (.int .i64 y) ∧ Below w.heap.size w w' := by
  subst h; exact Next_any x l0 l1 w
theorem head_begin (x y : Int) (h : bg x = y) (l0 : 0 ≤ x) (l1 : x ≤ 1000) (w : World) :
    Calls Try.prog 12 #[.int .i64 x] w fun e w' => e = .returned (.int .i64 y) ∧ w = w' := by
  subst h; exact Begin_any x l0 l1 w
theorem head_any (w : World) : Calls Try.prog 9 #[] w fun e w' => e = .returned (.bool true) ∧ Below w.heap.size w w' := by
  go_enter Try.func9, Try.ntmps9
  go_wp2_with fail
  refine (head_next _ _ nx_a (by decide) (by decide) _).mono ?_
  rintro e w1 ⟨rfl, h1⟩
  go_wp2_with fail
  refine (head_next _ _ nx_b (by decide) (by decide) _).mono ?_
  rintro e w2 ⟨rfl, h2⟩
  have h12 := more h1 h2
  clear h1 h2
  go_wp2_with fail
  refine (head_next _ _ nx_c (by decide) (by decide) _).mono ?_
  rintro e w3 ⟨rfl, h3⟩
  have h13 := more h12 h3
  clear h12 h3
  go_wp2_with fail
  refine (head_begin _ _ bg_a (by decide) (by decide) _).mono ?_
  rintro e w' ⟨rfl, rfl⟩
  go_wp2_with fail
  refine (head_begin _ _ bg_b (by decide) (by decide) _).mono ?_
  rintro e w' ⟨rfl, rfl⟩
  go_wp2_with fail
  refine (Pick_any _ _ (by decide) (by decide) (by decide) (by decide) _).mono ?_
  rintro e w' ⟨rfl, rfl⟩
  go_wp2_with fail
  go_ret
  exact ⟨rfl, h13⟩
theorem good_yes (x : Int) (h0 : 1 ≤ x) (h1 : x ≤ 4294967295) (w : World) : Calls Try.prog 14 #[.int .i64 x] w fun e w' => e = .returned (.bool true) ∧ w = w' := by
  have h2 : x < 4294967296 := by omega
  go_enter Try.func14, Try.ntmps14
  go_wp2
  go_ret
  exact ⟨rfl, rfl⟩
theorem good_no (x : Int) (h : ¬ (1 ≤ x ∧ x ≤ 4294967295)) (w : World) : Calls Try.prog 14 #[.int .i64 x] w fun e w' => e = .returned (.bool false) ∧ w = w' := by
  have hc : x < 1 ∨ (1 ≤ x ∧ 4294967296 ≤ x) := by omega
  clear h
  rcases hc with hc | ⟨hc, hd⟩
  · go_enter Try.func14, Try.ntmps14
    go_wp2
    go_ret
    exact ⟨rfl, rfl⟩
  · have F : decide (x < 4294967296) = false := decide_eq_false (by omega)
    clear hd
    go_enter Try.func14, Try.ntmps14
    go_wp2
    go_ret
    exact ⟨rfl, rfl⟩
theorem DrawThreads_calls (W : World) (a : Int) (l0 : IntKind.u16.min ≤ a) (l1 : a ≤ IntKind.u16.max) (b : Int) (m0 : IntKind.u16.min ≤ b) (m1 : b ≤ IntKind.u16.max) :
    Calls Try.prog 8 #[.int .u16 a, .int .u16 b] W fun e W' => e = .returned (.bool true) ∧ Below W.heap.size W W' := by
  have l0' : 0 ≤ a := l0
  have l1' : a ≤ 65535 := l1
  have m0' : 0 ≤ b := m0
  have m1' : b ≤ 65535 := m1
  clear l0 l1 m0 m1
  have F : (bg (a % 1001) == bg (b % 1001)) = (a % 1001 == b % 1001) := by
    by_cases h : a % 1001 = b % 1001
    · rw [h]; simp
    · rw [beq_f h, beq_f fun e => h (bg_inj _ _ (by omega) (by omega) (by omega) (by omega) e)]
  have HF := Lib.hid F
  clear F
  go_enter Try.func8, Try.ntmps8
  go_wp2_with fail
  refine (head_any _).mono ?_
  rintro e w1 ⟨rfl, h1⟩
  go_wp2_with fail
  refine (Begin_any _ (by omega) (by omega) _).mono ?_
  rintro e w' ⟨rfl, rfl⟩
  go_wp2_with fail
  refine (Begin_any _ (by omega) (by omega) _).mono ?_
  rintro e w' ⟨rfl, rfl⟩
  have F := HF.out
  go_wp2_with fail
  go_ret
  exact ⟨by simp, h1⟩
theorem DrawDraws_calls (W : World) (x : Int) (l0 : IntKind.i64.min ≤ x) (l1 : x ≤ IntKind.i64.max) (t : Int) (m0 : IntKind.u16.min ≤ t) (m1 : t ≤ IntKind.u16.max) :
    Calls Try.prog 4 #[.int .i64 x, .int .u16 t] W fun e W' => e = .returned (.bool true) ∧ Below W.heap.size W W' := by
  have l0' : -9223372036854775808 ≤ x := l0
  have l1' : x ≤ 9223372036854775807 := l1
  have m0' : 0 ≤ t := m0
  have m1' : t ≤ 65535 := m1
  clear l0 l1 m0 m1
  have hb := bg_bd (t % 1001) (by omega) (by omega)
  have hd := dr_bd x
  have hn := nx_bd (dr x) hd.1 hd.2
  by_cases h : 1 ≤ x ∧ x ≤ 4294967295
  · go_enter Try.func4, Try.ntmps4
    go_wp2_with fail
    refine (head_any _).mono ?_
    rintro e w1 ⟨rfl, h1⟩
    go_wp2_with fail
    refine (Next_any _ l0' l1' _).mono ?_
    rintro e w2 ⟨rfl, h2⟩
    have h12 := more h1 h2
    clear h1 h2
    go_wp2_with fail
    refine (Begin_any _ (by omega) (by omega) _).mono ?_
    rintro e w' ⟨rfl, rfl⟩
    go_wp2_with fail
    refine (good_yes _ hn.1 hn.2 _).mono ?_
    rintro e w' ⟨rfl, rfl⟩
    go_wp2_with fail
    refine (good_yes _ hb.1 hb.2 _).mono ?_
    rintro e w' ⟨rfl, rfl⟩
    go_wp2_with fail
    refine (good_yes _ h.1 h.2 _).mono ?_
    rintro e w' ⟨rfl, rfl⟩
    go_wp2_with fail
    go_ret
    exact ⟨rfl, h12⟩
  · have HN := Lib.hid (show nx (dr x) = nx (dr 1) by rw [dr_no x h]; rfl)
    have HG := Lib.hid (good_no x h)
    clear h
    go_enter Try.func4, Try.ntmps4
    go_wp2_with fail
    refine (head_any _).mono ?_
    rintro e w1 ⟨rfl, h1⟩
    go_wp2_with fail
    refine (Next_any _ l0' l1' _).mono ?_
    rintro e w2 ⟨rfl, h2⟩
    have h12 := more h1 h2
    clear h1 h2
    go_wp2_with fail
    refine (Begin_any _ (by omega) (by omega) _).mono ?_
    rintro e w' ⟨rfl, rfl⟩
    go_wp2_with fail
    refine (good_yes _ hn.1 hn.2 _).mono ?_
    rintro e w' ⟨rfl, rfl⟩
    go_wp2_with fail
    refine (good_yes _ hb.1 hb.2 _).mono ?_
    rintro e w' ⟨rfl, rfl⟩
    go_wp2_with fail
    refine (HG.out _).mono ?_
    rintro e w' ⟨rfl, rfl⟩
    go_wp2_with fail
    refine (Next_any 1 (by decide) (by decide) _).mono ?_
    rintro e w3 ⟨rfl, h3⟩
    have h13 := more h12 h3
    clear h12 h3
    rw [← HN.out]
    go_wp2_with fail
    go_ret
    exact ⟨rfl, h13⟩
theorem DrawApart_calls (W : World) (x : Int) (l0 : IntKind.i64.min ≤ x) (l1 : x ≤ IntKind.i64.max) (y : Int) (m0 : IntKind.i64.min ≤ y) (m1 : y ≤ IntKind.i64.max) :
    Calls Try.prog 5 #[.int .i64 x, .int .i64 y] W fun e W' => e = .returned (.bool true) ∧ Below W.heap.size W W' := by
  have l0' : -9223372036854775808 ≤ x := l0
  have l1' : x ≤ 9223372036854775807 := l1
  have m0' : -9223372036854775808 ≤ y := m0
  have m1' : y ≤ 9223372036854775807 := m1
  clear l0 l1 m0 m1
  by_cases h : 1 ≤ x ∧ x ≤ 4294967295
  · by_cases k : 1 ≤ y ∧ y ≤ 4294967295
    · have F : (nx (dr x) == nx (dr y)) = (x == y) := by
        rw [dr_yes x h, dr_yes y k]
        by_cases e : x = y
        · rw [e]; simp
        · rw [beq_f e, beq_f fun q => e (nx_inj _ _ (by omega) h.2 (by omega) k.2 q)]
      have HF := Lib.hid F
      clear F
      go_enter Try.func5, Try.ntmps5
      go_wp2_with fail
      refine (head_any _).mono ?_
      rintro e w1 ⟨rfl, h1⟩
      go_wp2_with fail
      refine (good_yes _ h.1 h.2 _).mono ?_
      rintro e w' ⟨rfl, rfl⟩
      go_wp2_with fail
      refine (good_yes _ k.1 k.2 _).mono ?_
      rintro e w' ⟨rfl, rfl⟩
      go_wp2_with fail
      refine (Next_any _ l0' l1' _).mono ?_
      rintro e w2 ⟨rfl, h2⟩
      have h12 := more h1 h2
      clear h1 h2
      go_wp2_with fail
      refine (Next_any _ m0' m1' _).mono ?_
      rintro e w3 ⟨rfl, h3⟩
      have h13 := more h12 h3
      clear h12 h3
      have F := HF.out
      go_wp2_with fail
      go_ret
      exact ⟨by simp, h13⟩
    · have HG := Lib.hid (good_no y k)
      clear k
      go_enter Try.func5, Try.ntmps5
      go_wp2_with fail
      refine (head_any _).mono ?_
      rintro e w1 ⟨rfl, h1⟩
      go_wp2_with fail
      refine (good_yes _ h.1 h.2 _).mono ?_
      rintro e w' ⟨rfl, rfl⟩
      go_wp2_with fail
      refine (HG.out _).mono ?_
      rintro e w' ⟨rfl, rfl⟩
      go_wp2_with fail
      go_ret
      exact ⟨rfl, h1⟩
  · have HG := Lib.hid (good_no x h)
    clear h
    go_enter Try.func5, Try.ntmps5
    go_wp2_with fail
    refine (head_any _).mono ?_
    rintro e w1 ⟨rfl, h1⟩
    go_wp2_with fail
    refine (HG.out _).mono ?_
    rintro e w' ⟨rfl, rfl⟩
    go_wp2_with fail
    go_ret
    exact ⟨rfl, h1⟩
end Go.Proofs.Ytifcceccngfjfaa
