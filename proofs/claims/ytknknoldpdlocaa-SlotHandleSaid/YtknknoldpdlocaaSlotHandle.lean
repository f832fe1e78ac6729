/- SlotHandle. Written by tools/gen_slot.py. -/
import Derived.Test.YtknknoldpdlocaaSlotHead
namespace Go.Proofs.Ytknknoldpdlocaa
open Go.ChangeShapes Go.WideShapes Go.ChangeAt Go.RowKit
set_option linter.unusedVariables false
set_option linter.unusedSimpArgs false
set_option maxRecDepth 100000
set_option maxHeartbeats 2000000 in
theorem SlotHandle_yy (W : World) (t : Int) (t0 : -9223372036854775808 ≤ t) (t1 : t ≤ 9223372036854775807) (a : Int) (a0 : -9223372036854775808 ≤ a) (a1 : a ≤ 9223372036854775807) (h : Int) (h0 : -9223372036854775808 ≤ h) (h1 : h ≤ 9223372036854775807) (q : Int) (q0 : 0 ≤ q) (q1 : q ≤ 255) (h3 : hdB t = true) (h2 : nmB h (q % 16 + 1) = true) :
    Calls Try.prog 5 #[.int .i64 t, .int .i64 a, .int .i64 h, .int .u8 q] W fun e w' => e = .returned (.bool true) ∧ Below W.heap.size W w' := by
  have Hh := fun w => Lib.hid (head10_any w)
  obtain ⟨k, hk⟩ : ∃ k : Int, q % 16 + 1 = k := ⟨_, rfl⟩
  rw [hk] at h2
  have k0 : 1 ≤ k := by omega
  have k1 : k ≤ 16 := by omega
  have e1 : q.tmod 16 = k - 1 := by rw [Int.tmod_eq_emod_of_nonneg q0]; omega
  have e3 : k - 1 + 1 = k := by omega
  have HH := fun w => Lib.hid (sHandle_any t a ⟨t0, t1⟩ ⟨a0, a1⟩ w)
  have hn := hd_nm t a h3
  have hbd := hdV_bd t a
  have HM := fun w => Lib.hid (sNamed_any (hdV t a) 16 (by unfold W64; omega) (by decide) (by decide) w)
  rw [hn.1, hn.2.1, hn.2.2] at HM
  rw [h3] at HH
  have HV := fun w => Lib.hid (rVersion_any a a0 a1 w)
  obtain ⟨g0, g1⟩ := of_decide_eq_true h3
  have g2 : t < 16 := by omega
  clear hn hbd h3
  generalize hdV t a = H at HH HM
  generalize pver a = P at HM HV
  have qt : (t != t) = false := by simp
  have qp : (P != P) = false := by simp
  have nh := nm_hd h k k1 h2
  have HN := fun w => Lib.hid (sNamed_any h k ⟨h0, h1⟩ k0 k1 w)
  have HW := fun w => Lib.hid (rWord_yes (nmV h k) 0 nh.1 nh.2.1 (by decide) (by decide) w)
  have HG := fun w => Lib.hid (sHandle_any (nmT h k) (sg (pmk (nmV h k) 0)) (by unfold W64; omega) (sg_bd' _) w)
  rw [nh.2.2.2.2.1, nh.2.2.2.2.2] at HG
  rw [h2] at HN
  have tk := nh.2.2.2.1
  clear nh h2
  generalize sg (pmk (nmV h k) 0) = Z at HW HG
  generalize nmT h k = X at HN HG tk
  generalize nmV h k = Y at HN HW
  have qh : (h == h) = true := by simp
  clear hk
  go_enter Try.func5, Try.ntmps5
  go_wp2_with fail
  refine (Hh _).out.mono ?_
  rintro e w' ⟨rfl, hb⟩
  have hS := hb
  clear hb
  go_wp2_with fail
  refine (HH _).out.mono ?_
  rintro e w' ⟨rfl, hb⟩
  have hS := smore hS hb
  clear hb
  go_wp2_with fail
  refine (HM _).out.mono ?_
  rintro e w' ⟨rfl, hb⟩
  have hS := smore hS hb
  clear hb
  go_wp2_with fail
  refine (HV _).out.mono ?_
  rintro e w' ⟨rfl, rfl⟩
  go_wp2_with fail
  refine (HN _).out.mono ?_
  rintro e w' ⟨rfl, hb⟩
  have hS := smore hS hb
  clear hb
  go_wp2_with fail
  refine (HW _).out.mono ?_
  rintro e w' ⟨rfl, rfl⟩
  go_wp2_with fail
  refine (HG _).out.mono ?_
  rintro e w' ⟨rfl, hb⟩
  have hS := smore hS hb
  clear hb
  go_wp2_with fail
  go_ret
  exact ⟨rfl, hS⟩
set_option maxHeartbeats 2000000 in
theorem SlotHandle_ny (W : World) (t : Int) (t0 : -9223372036854775808 ≤ t) (t1 : t ≤ 9223372036854775807) (a : Int) (a0 : -9223372036854775808 ≤ a) (a1 : a ≤ 9223372036854775807) (h : Int) (h0 : -9223372036854775808 ≤ h) (h1 : h ≤ 9223372036854775807) (q : Int) (q0 : 0 ≤ q) (q1 : q ≤ 255) (h3 : hdB t = false) (h2 : nmB h (q % 16 + 1) = true) :
    Calls Try.prog 5 #[.int .i64 t, .int .i64 a, .int .i64 h, .int .u8 q] W fun e w' => e = .returned (.bool true) ∧ Below W.heap.size W w' := by
  have Hh := fun w => Lib.hid (head10_any w)
  obtain ⟨k, hk⟩ : ∃ k : Int, q % 16 + 1 = k := ⟨_, rfl⟩
  rw [hk] at h2
  have k0 : 1 ≤ k := by omega
  have k1 : k ≤ 16 := by omega
  have e1 : q.tmod 16 = k - 1 := by rw [Int.tmod_eq_emod_of_nonneg q0]; omega
  have e3 : k - 1 + 1 = k := by omega
  have HH := fun w => Lib.hid (sHandle_any t a ⟨t0, t1⟩ ⟨a0, a1⟩ w)
  have HM := fun w => Lib.hid (sNamed_any 0 16 (by unfold W64; decide) (by decide) (by decide) w)
  rw [show nmT 0 16 = 0 from by decide +kernel, show nmV 0 16 = 0 from by decide +kernel, show nmB 0 16 = true from by decide +kernel] at HM
  rw [show hdV t a = 0 from if_neg (by rw [h3]; decide), h3] at HH
  have hg := of_decide_eq_false h3
  have hc : t < 0 ∨ (0 ≤ t ∧ 16 ≤ t) := by omega
  clear hg h3
  have nh := nm_hd h k k1 h2
  have HN := fun w => Lib.hid (sNamed_any h k ⟨h0, h1⟩ k0 k1 w)
  have HW := fun w => Lib.hid (rWord_yes (nmV h k) 0 nh.1 nh.2.1 (by decide) (by decide) w)
  have HG := fun w => Lib.hid (sHandle_any (nmT h k) (sg (pmk (nmV h k) 0)) (by unfold W64; omega) (sg_bd' _) w)
  rw [nh.2.2.2.2.1, nh.2.2.2.2.2] at HG
  rw [h2] at HN
  have tk := nh.2.2.2.1
  clear nh h2
  generalize sg (pmk (nmV h k) 0) = Z at HW HG
  generalize nmT h k = X at HN HG tk
  generalize nmV h k = Y at HN HW
  have qh : (h == h) = true := by simp
  clear hk
  rcases hc with hc | ⟨hc, hd⟩
  all_goals
    go_enter Try.func5, Try.ntmps5
    go_wp2_with fail
    refine (Hh _).out.mono ?_
    rintro e w' ⟨rfl, hb⟩
    have hS := hb
    clear hb
    go_wp2_with fail
    refine (HH _).out.mono ?_
    rintro e w' ⟨rfl, hb⟩
    have hS := smore hS hb
    clear hb
    go_wp2_with fail
    refine (HM _).out.mono ?_
    rintro e w' ⟨rfl, hb⟩
    have hS := smore hS hb
    clear hb
    go_wp2_with fail
    refine (HN _).out.mono ?_
    rintro e w' ⟨rfl, hb⟩
    have hS := smore hS hb
    clear hb
    go_wp2_with fail
    refine (HW _).out.mono ?_
    rintro e w' ⟨rfl, rfl⟩
    go_wp2_with fail
    refine (HG _).out.mono ?_
    rintro e w' ⟨rfl, hb⟩
    have hS := smore hS hb
    clear hb
    go_wp2_with fail
    go_ret
    exact ⟨rfl, hS⟩
set_option maxHeartbeats 2000000 in
theorem SlotHandle_yn (W : World) (t : Int) (t0 : -9223372036854775808 ≤ t) (t1 : t ≤ 9223372036854775807) (a : Int) (a0 : -9223372036854775808 ≤ a) (a1 : a ≤ 9223372036854775807) (h : Int) (h0 : -9223372036854775808 ≤ h) (h1 : h ≤ 9223372036854775807) (q : Int) (q0 : 0 ≤ q) (q1 : q ≤ 255) (h3 : hdB t = true) (h2 : nmB h (q % 16 + 1) = false) :
    Calls Try.prog 5 #[.int .i64 t, .int .i64 a, .int .i64 h, .int .u8 q] W fun e w' => e = .returned (.bool true) ∧ Below W.heap.size W w' := by
  have Hh := fun w => Lib.hid (head10_any w)
  obtain ⟨k, hk⟩ : ∃ k : Int, q % 16 + 1 = k := ⟨_, rfl⟩
  rw [hk] at h2
  have k0 : 1 ≤ k := by omega
  have k1 : k ≤ 16 := by omega
  have e1 : q.tmod 16 = k - 1 := by rw [Int.tmod_eq_emod_of_nonneg q0]; omega
  have e3 : k - 1 + 1 = k := by omega
  have HH := fun w => Lib.hid (sHandle_any t a ⟨t0, t1⟩ ⟨a0, a1⟩ w)
  have hn := hd_nm t a h3
  have hbd := hdV_bd t a
  have HM := fun w => Lib.hid (sNamed_any (hdV t a) 16 (by unfold W64; omega) (by decide) (by decide) w)
  rw [hn.1, hn.2.1, hn.2.2] at HM
  rw [h3] at HH
  have HV := fun w => Lib.hid (rVersion_any a a0 a1 w)
  obtain ⟨g0, g1⟩ := of_decide_eq_true h3
  have g2 : t < 16 := by omega
  clear hn hbd h3
  generalize hdV t a = H at HH HM
  generalize pver a = P at HM HV
  have qt : (t != t) = false := by simp
  have qp : (P != P) = false := by simp
  have HN := fun w => Lib.hid (sNamed_any h k ⟨h0, h1⟩ k0 k1 w)
  rw [show nmT h k = 0 from if_neg (by rw [h2]; decide), show nmV h k = 0 from if_neg (by rw [h2]; decide), h2] at HN
  clear h2
  clear hk
  go_enter Try.func5, Try.ntmps5
  go_wp2_with fail
  refine (Hh _).out.mono ?_
  rintro e w' ⟨rfl, hb⟩
  have hS := hb
  clear hb
  go_wp2_with fail
  refine (HH _).out.mono ?_
  rintro e w' ⟨rfl, hb⟩
  have hS := smore hS hb
  clear hb
  go_wp2_with fail
  refine (HM _).out.mono ?_
  rintro e w' ⟨rfl, hb⟩
  have hS := smore hS hb
  clear hb
  go_wp2_with fail
  refine (HV _).out.mono ?_
  rintro e w' ⟨rfl, rfl⟩
  go_wp2_with fail
  refine (HN _).out.mono ?_
  rintro e w' ⟨rfl, hb⟩
  have hS := smore hS hb
  clear hb
  go_wp2_with fail
  go_ret
  exact ⟨rfl, hS⟩
set_option maxHeartbeats 2000000 in
theorem SlotHandle_nn (W : World) (t : Int) (t0 : -9223372036854775808 ≤ t) (t1 : t ≤ 9223372036854775807) (a : Int) (a0 : -9223372036854775808 ≤ a) (a1 : a ≤ 9223372036854775807) (h : Int) (h0 : -9223372036854775808 ≤ h) (h1 : h ≤ 9223372036854775807) (q : Int) (q0 : 0 ≤ q) (q1 : q ≤ 255) (h3 : hdB t = false) (h2 : nmB h (q % 16 + 1) = false) :
    Calls Try.prog 5 #[.int .i64 t, .int .i64 a, .int .i64 h, .int .u8 q] W fun e w' => e = .returned (.bool true) ∧ Below W.heap.size W w' := by
  have Hh := fun w => Lib.hid (head10_any w)
  obtain ⟨k, hk⟩ : ∃ k : Int, q % 16 + 1 = k := ⟨_, rfl⟩
  rw [hk] at h2
  have k0 : 1 ≤ k := by omega
  have k1 : k ≤ 16 := by omega
  have e1 : q.tmod 16 = k - 1 := by rw [Int.tmod_eq_emod_of_nonneg q0]; omega
  have e3 : k - 1 + 1 = k := by omega
  have HH := fun w => Lib.hid (sHandle_any t a ⟨t0, t1⟩ ⟨a0, a1⟩ w)
  have HM := fun w => Lib.hid (sNamed_any 0 16 (by unfold W64; decide) (by decide) (by decide) w)
  rw [show nmT 0 16 = 0 from by decide +kernel, show nmV 0 16 = 0 from by decide +kernel, show nmB 0 16 = true from by decide +kernel] at HM
  rw [show hdV t a = 0 from if_neg (by rw [h3]; decide), h3] at HH
  have hg := of_decide_eq_false h3
  have hc : t < 0 ∨ (0 ≤ t ∧ 16 ≤ t) := by omega
  clear hg h3
  have HN := fun w => Lib.hid (sNamed_any h k ⟨h0, h1⟩ k0 k1 w)
  rw [show nmT h k = 0 from if_neg (by rw [h2]; decide), show nmV h k = 0 from if_neg (by rw [h2]; decide), h2] at HN
  clear h2
  clear hk
  rcases hc with hc | ⟨hc, hd⟩
  all_goals
    go_enter Try.func5, Try.ntmps5
    go_wp2_with fail
    refine (Hh _).out.mono ?_
    rintro e w' ⟨rfl, hb⟩
    have hS := hb
    clear hb
    go_wp2_with fail
    refine (HH _).out.mono ?_
    rintro e w' ⟨rfl, hb⟩
    have hS := smore hS hb
    clear hb
    go_wp2_with fail
    refine (HM _).out.mono ?_
    rintro e w' ⟨rfl, hb⟩
    have hS := smore hS hb
    clear hb
    go_wp2_with fail
    refine (HN _).out.mono ?_
    rintro e w' ⟨rfl, hb⟩
    have hS := smore hS hb
    clear hb
    go_wp2_with fail
    go_ret
    exact ⟨rfl, hS⟩
theorem SlotHandle_calls (W : World) (t : Int) (t0 : IntKind.i64.min ≤ t) (t1 : t ≤ IntKind.i64.max) (a : Int) (a0 : IntKind.i64.min ≤ a) (a1 : a ≤ IntKind.i64.max) (h : Int) (h0 : IntKind.i64.min ≤ h) (h1 : h ≤ IntKind.i64.max) (q : Int) (q0 : IntKind.u8.min ≤ q) (q1 : q ≤ IntKind.u8.max) :
    Calls Try.prog 5 #[.int .i64 t, .int .i64 a, .int .i64 h, .int .u8 q] W fun e w' => e = .returned (.bool true) ∧ Below W.heap.size W w' := by
  have t0 : -9223372036854775808 ≤ t := t0
  have t1 : t ≤ 9223372036854775807 := t1
  have a0 : -9223372036854775808 ≤ a := a0
  have a1 : a ≤ 9223372036854775807 := a1
  have h0 : -9223372036854775808 ≤ h := h0
  have h1 : h ≤ 9223372036854775807 := h1
  have q0 : 0 ≤ q := q0
  have q1 : q ≤ 255 := q1

  cases h3 : hdB t with
  | true =>
    cases h2 : nmB h (q % 16 + 1) with
    | true => exact SlotHandle_yy W t t0 t1 a a0 a1 h h0 h1 q q0 q1 h3 h2
    | false => exact SlotHandle_yn W t t0 t1 a a0 a1 h h0 h1 q q0 q1 h3 h2
  | false =>
    cases h2 : nmB h (q % 16 + 1) with
    | true => exact SlotHandle_ny W t t0 t1 a a0 a1 h h0 h1 q q0 q1 h3 h2
    | false => exact SlotHandle_nn W t t0 t1 a a0 a1 h h0 h1 q q0 q1 h3 h2
end Go.Proofs.Ytknknoldpdlocaa
