/- The document's answers of layer 10. -/
import Derived.Test.YtknknoldpdlocaaSlotMath
import Derived.Test.YtknknoldpdlocaaPackRef
import Derived.OwnWalk
namespace Go.Proofs.Ytknknoldpdlocaa
open Go.ChangeShapes Go.WideShapes Go.ChangeAt Go.RowKit
set_option linter.unusedVariables false
theorem rState_any (a : Int) (la : W64 a) (w : World) :
    Calls Try.prog 17 #[.int .i64 a] w fun e w' => e = .returned (.int .i64 (stS a)) ∧ Below w.heap.size w w' := by
  have hb := pval_bd a
  by_cases h : 0 ≤ pval a ∧ pval a ≤ 3
  · rw [show stS a = pval a from if_pos h]
    obtain ⟨h0, h1⟩ := h
    go_enter Try.func17, Try.ntmps17
    go_wp2_with fail
    refine (rValue_any a la.1 la.2 _).mono ?_
    rintro e w' ⟨rfl, rfl⟩
    go_wp2_with fail
    go_ret
    exact ⟨rfl, Below.refl _ _⟩
  · rw [show stS a = -1 from if_neg h]
    have hc : pval a < 0 ∨ (0 ≤ pval a ∧ 3 < pval a) := by omega
    clear h
    rcases hc with hc | ⟨hc, hd⟩
    all_goals
      go_enter Try.func17, Try.ntmps17
      go_wp2_with fail
      refine (rValue_any a la.1 la.2 _).mono ?_
      rintro e w' ⟨rfl, rfl⟩
      go_wp2_with fail
      go_ret
      exact ⟨rfl, Below.refl _ _⟩
theorem rTurn_any (a s : Int) (la : W64 a) (ls : W64 s) (w : World) :
    Calls Try.prog 11 #[.int .i64 a, .int .i64 s] w fun e w' => e = .returned (.tuple #[.int .i64 (tnV a s), .bool (tnB s)]) ∧ Below w.heap.size w w' := by
  by_cases h : 0 ≤ s ∧ s ≤ 3
  · have hB : tnB s = true := decide_eq_true h
    rw [show tnV a s = tnW a s from if_pos hB, hB]
    obtain ⟨h0, h1⟩ := h
    have HN := Lib.hid (rNext_yes a s (by omega) (by omega) la.1 la.2)
    unfold tnW
    clear la ls hB
    go_enter Try.func11, Try.ntmps11
    go_wp2_with fail
    refine (HN.out _).mono ?_
    rintro e w' ⟨rfl, rfl⟩
    go_wp2_with fail
    go_ret2
    exact ⟨rfl, Below.refl _ _⟩
  · have hB : tnB s = false := decide_eq_false h
    rw [show tnV a s = 0 from if_neg (by rw [hB]; decide), hB]
    have hc : s < 0 ∨ (0 ≤ s ∧ 3 < s) := by omega
    clear h hB
    rcases hc with hc | ⟨hc, hd⟩
    all_goals
      go_enter Try.func11, Try.ntmps11
      go_wp2_with fail
      go_ret2
      exact ⟨rfl, Below.refl _ _⟩
theorem rBody_any (v n : Int) (lv : W64 v) (ln : W64 n) (w : World) :
    Calls Try.prog 13 #[.int .i64 v, .int .i64 n] w fun e w' => e = .returned (.tuple #[.int .i64 (bdV v n), .bool (bdB v n)]) ∧ Below w.heap.size w w' := by
  by_cases h : 0 ≤ v ∧ v ≤ 11 ∧ 1 ≤ n ∧ n ≤ 1048576
  · have hB : bdB v n = true := decide_eq_true h
    rw [show bdV v n = v * 2097152 + n from if_pos hB, hB]
    obtain ⟨h0, h1, h2, h3⟩ := h
    have g1 : v < 12 := by omega
    clear hB lv ln
    go_enter Try.func13, Try.ntmps13
    go_wp2_with fail
    go_ret2
    exact ⟨rfl, Below.refl _ _⟩
  · have hB : bdB v n = false := decide_eq_false h
    rw [show bdV v n = 0 from if_neg (by rw [hB]; decide), hB]
    have hc : v < 0 ∨ (0 ≤ v ∧ 12 ≤ v) ∨ (0 ≤ v ∧ v < 12 ∧ n < 1) ∨ (0 ≤ v ∧ v < 12 ∧ 1 ≤ n ∧ 1048576 < n) := by omega
    clear h hB
    rcases hc with hc | ⟨hc, hd⟩ | ⟨hc, hd, he⟩ | ⟨hc, hd, he, hf⟩
    all_goals
      go_enter Try.func13, Try.ntmps13
      go_wp2_with fail
      go_ret2
      exact ⟨rfl, Below.refl _ _⟩
theorem rOf_any (a : Int) (la : W64 a) (w : World) :
    Calls Try.prog 15 #[.int .i64 a] w fun e w' => e = .returned (.tuple #[.int .i64 (ofV a), .int .i64 (ofN a), .bool (ofB a)]) ∧ Below w.heap.size w w' := by
  by_cases hz : a < 0
  · have hB : ofB a = false := decide_eq_false (by omega)
    rw [show ofV a = 0 from if_neg (by rw [hB]; decide), show ofN a = 0 from if_neg (by rw [hB]; decide), hB]
    clear hB
    go_enter Try.func15, Try.ntmps15
    go_wp2_with fail
    go_ret3
    exact ⟨rfl, Below.refl _ _⟩
  · have h0 : 0 ≤ a := by omega
    clear hz
    have q0 : 0 ≤ a / 2097152 := by omega
    have q1 : a / 2097152 ≤ 4398046511103 := by have := la.2; omega
    have r0 : 0 ≤ a % 2097152 := by omega
    have r1 : a % 2097152 < 2097152 := by omega
    have e1 : a.tmod 2097152 = a % 2097152 := Int.tmod_eq_emod_of_nonneg h0
    by_cases h : ofB a = true
    · have hh := of_decide_eq_true h
      have hB : bdB (a / 2097152) (a % 2097152) = true := decide_eq_true (by omega)
      have hV : bdV (a / 2097152) (a % 2097152) = a := by unfold bdV; rw [if_pos hB]; omega
      have HN := Lib.hid (rBody_any (a / 2097152) (a % 2097152) (by unfold W64; omega) (by unfold W64; omega))
      rw [hB, hV] at HN
      rw [show ofV a = a / 2097152 from if_pos h, show ofN a = a % 2097152 from if_pos h, h]
      have qq : (a != a) = false := by simp
      clear h hh hB hV
      go_enter Try.func15, Try.ntmps15
      go_wp2_with fail
      refine (HN.out _).mono ?_
      rintro e w' ⟨rfl, hb⟩
      go_wp2_with fail
      go_ret3
      exact ⟨rfl, hb⟩
    · have hf : ofB a = false := by simpa using h
      have hB : bdB (a / 2097152) (a % 2097152) = false := by
        refine decide_eq_false fun hx => h (decide_eq_true ?_)
        omega
      have HN := Lib.hid (rBody_any (a / 2097152) (a % 2097152) (by unfold W64; omega) (by unfold W64; omega))
      rw [hB] at HN
      rw [show ofV a = 0 from if_neg (by rw [hf]; decide), show ofN a = 0 from if_neg (by rw [hf]; decide), hf]
      clear h hf hB
      go_enter Try.func15, Try.ntmps15
      go_wp2_with fail
      refine (HN.out _).mono ?_
      rintro e w' ⟨rfl, hb⟩
      go_wp2_with fail
      go_ret3
      exact ⟨rfl, hb⟩
theorem rHandle_any (t a : Int) (lt : W64 t) (la : W64 a) (w : World) :
    Calls Try.prog 19 #[.int .i64 t, .int .i64 a] w fun e w' => e = .returned (.tuple #[.int .i64 (hdV t a), .bool (hdB t)]) ∧ Below w.heap.size w w' := by
  have hv := pver_bd a
  by_cases h : 0 ≤ t ∧ t ≤ 15
  · have hB : hdB t = true := decide_eq_true h
    rw [show hdV t a = pver a * 16 + t from if_pos hB, hB]
    obtain ⟨h0, h1⟩ := h
    have g1 : t < 16 := by omega
    clear hB
    go_enter Try.func19, Try.ntmps19
    go_wp2_with fail
    refine (rVersion_any a la.1 la.2 _).mono ?_
    rintro e w' ⟨rfl, rfl⟩
    go_wp2_with fail
    go_ret2
    exact ⟨rfl, Below.refl _ _⟩
  · have hB : hdB t = false := decide_eq_false h
    rw [show hdV t a = 0 from if_neg (by rw [hB]; decide), hB]
    have hc : t < 0 ∨ (0 ≤ t ∧ 16 ≤ t) := by omega
    clear h hB
    rcases hc with hc | ⟨hc, hd⟩
    all_goals
      go_enter Try.func19, Try.ntmps19
      go_wp2_with fail
      go_ret2
      exact ⟨rfl, Below.refl _ _⟩
theorem rNamed_any (h k : Int) (lh : W64 h) (k0 : 1 ≤ k) (k1 : k ≤ 16) (w : World) :
    Calls Try.prog 21 #[.int .i64 h, .int .i64 k] w fun e w' => e = .returned (.tuple #[.int .i64 (nmT h k), .int .i64 (nmV h k), .bool (nmB h k)]) ∧ Below w.heap.size w w' := by
  by_cases hz : h < 0
  · have hB : nmB h k = false := decide_eq_false (by omega)
    rw [show nmT h k = 0 from if_neg (by rw [hB]; decide), show nmV h k = 0 from if_neg (by rw [hB]; decide), hB]
    have b0 : h.tdiv 16 = -((-h) / 16) := by
      have q : (-h).tdiv 16 = (-h) / 16 := Int.tdiv_eq_ediv_of_nonneg (by omega)
      rw [Int.neg_tdiv] at q; omega
    have b1 : -9223372036854775808 ≤ -((-h) / 16) := by have := lh.1; omega
    have b2 : -((-h) / 16) ≤ 9223372036854775807 := by omega
    clear hB
    go_enter Try.func21, Try.ntmps21
    go_wp2_with fail
    go_ret3
    exact ⟨rfl, Below.refl _ _⟩
  · have h0 : 0 ≤ h := by omega
    clear hz
    have q0 : 0 ≤ h / 16 := by omega
    have q1 : h / 16 ≤ 576460752303423487 := by have := lh.2; omega
    have r0 : 0 ≤ h % 16 := by omega
    have r1 : h % 16 < 16 := by omega
    have e1 : h.tmod 16 = h % 16 := Int.tmod_eq_emod_of_nonneg h0
    have e2 : h.tdiv 16 = h / 16 := Int.tdiv_eq_ediv_of_nonneg h0
    by_cases hh : nmB h k = true
    · obtain ⟨_, h1, h2⟩ := of_decide_eq_true hh
      have h3 : h / 16 < 4294967296 := by omega
      rw [show nmT h k = h % 16 from if_pos hh, show nmV h k = h / 16 from if_pos hh, hh]
      clear hh
      go_enter Try.func21, Try.ntmps21
      go_wp2_with fail
      go_ret3
      exact ⟨rfl, Below.refl _ _⟩
    · have hf : nmB h k = false := by simpa using hh
      have hc : k ≤ h % 16 ∨ (h % 16 < k ∧ 4294967296 ≤ h / 16) := by
        by_cases c1 : h % 16 < k
        · refine Or.inr ⟨c1, ?_⟩
          apply Int.not_lt.1
          intro c2
          exact hh (decide_eq_true ⟨h0, c1, by omega⟩)
        · exact Or.inl (by omega)
      rw [show nmT h k = 0 from if_neg (by rw [hf]; decide), show nmV h k = 0 from if_neg (by rw [hf]; decide), hf]
      clear hh hf
      rcases hc with hc | ⟨hc, hd⟩
      all_goals
        go_enter Try.func21, Try.ntmps21
        go_wp2_with fail
        go_ret3
        exact ⟨rfl, Below.refl _ _⟩
end Go.Proofs.Ytknknoldpdlocaa
