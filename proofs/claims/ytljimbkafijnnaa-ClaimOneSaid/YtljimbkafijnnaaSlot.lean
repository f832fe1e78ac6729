/- Contracts of package slot: each of its six functions answers as chapter 10's words say, whatever the arguments. -/
import Derived.Test.YtljimbkafijnnaaSlotMath
import Derived.OwnWalk
import Derived.Laws.Shifts
import Derived.Lib.QuietBelow
import Derived.BigQuiet
namespace Go.Proofs.Ytljimbkafijnnaa
open Go.ChangeShapes Go.WideShapes Go.ChangeAt Go.RowKit
set_option linter.unusedVariables false
theorem and_low (k : Nat) (n m : Int) (hm : (BitVec.ofInt 64 m).toNat = 2 ^ k - 1) (hk : 2 ^ k ≤ 9223372036854775808) : bits .and .i64 n m = ((n % 18446744073709551616).toNat % 2 ^ k : Nat) := by
  have key : (BitVec.ofInt 64 n &&& BitVec.ofInt 64 m).toNat = (n % ((2 ^ 64 : Nat) : Int)).toNat % 2 ^ k := by
    rw [BitVec.toNat_and, BitVec.toNat_ofInt, hm, Nat.and_two_pow_sub_one_eq_mod]
  show IntKind.i64.wrap ((BitVec.ofInt 64 n &&& BitVec.ofInt 64 m).toNat : Nat) = _
  rw [key, IntKind.wrap_i64]
  have h1 : (n % 18446744073709551616).toNat % 2 ^ k < 2 ^ k := Nat.mod_lt _ (Nat.two_pow_pos k)
  have e : ((2 ^ 64 : Nat) : Int) = 18446744073709551616 := by decide
  rw [e]
  omega
theorem and15 (n : Int) : bits .and .i64 n 15 = n % 16 := by
  rw [and_low 4 n 15 (by decide) (by decide)]; omega
theorem and21 (n : Int) : bits .and .i64 n 2097151 = n % 2097152 := by
  rw [and_low 21 n 2097151 (by decide) (by decide)]; omega
theorem isState_any (s : Int) (w : World) : Calls Try.prog 50 #[.int .i64 s] w fun e w' => e = .returned (.bool (tnB s)) ∧ w = w' := by
  by_cases h : 0 ≤ s ∧ s ≤ 3
  · rw [show tnB s = true from decide_eq_true h]
    obtain ⟨h0, h1⟩ := h
    go_enter Try.func50, Try.ntmps50
    go_wp2_with fail
    go_ret
    exact ⟨rfl, rfl⟩
  · rw [show tnB s = false from decide_eq_false h]
    have hc : s < 0 ∨ (0 ≤ s ∧ 3 < s) := by omega
    clear h
    rcases hc with hc | ⟨hc, hd⟩
    all_goals
      go_enter Try.func50, Try.ntmps50
      go_wp2_with fail
      go_ret
      first | exact ⟨rfl, rfl⟩ | exact ⟨congrArg (fun b => Ending.returned (.bool b)) (decide_eq_false (by omega)), rfl⟩
def hnd (t v : Int) : Value := .agg #[.int .i64 t, .int .i64 v]
theorem sState_any (a : Int) (la : W64 a) (w : World) :
    Calls Try.prog 29 #[.int .i64 a] w fun e w' => e = .returned (.int .i64 (stS a)) ∧ Below w.heap.size w w' := by
  by_cases h : 0 ≤ pval a ∧ pval a ≤ 3
  · have hI := isState_any (pval a)
    rw [show tnB (pval a) = true from decide_eq_true h] at hI
    have HI := Lib.hid hI
    rw [show stS a = pval a from if_pos h]
    clear hI
    obtain ⟨h0, h1⟩ := h
    go_enter Try.func29, Try.ntmps29
    go_wp2_with fail
    refine (Value_any a la.1 la.2 _).mono ?_
    rintro e w' ⟨rfl, rfl⟩
    go_wp2_with fail
    refine (HI.out _).mono ?_
    rintro e w' ⟨rfl, rfl⟩
    go_wp2_with fail
    go_ret
    exact ⟨rfl, Below.refl _ _⟩
  · have hI := isState_any (pval a)
    rw [show tnB (pval a) = false from decide_eq_false h] at hI
    have HI := Lib.hid hI
    rw [show stS a = -1 from if_neg h]
    clear hI h
    go_enter Try.func29, Try.ntmps29
    go_wp2_with fail
    refine (Value_any a la.1 la.2 _).mono ?_
    rintro e w' ⟨rfl, rfl⟩
    go_wp2_with fail
    refine (HI.out _).mono ?_
    rintro e w' ⟨rfl, rfl⟩
    go_wp2_with fail
    go_ret
    exact ⟨rfl, Below.refl _ _⟩
theorem sTurn_any (a s : Int) (la : W64 a) (ls : W64 s) (w : World) :
    Calls Try.prog 76 #[.int .i64 a, .int .i64 s] w fun e w' => e = .returned (.tuple #[.int .i64 (tnV a s), .bool (tnB s)]) ∧ Below w.heap.size w w' := by
  have hI := isState_any s
  by_cases h : 0 ≤ s ∧ s ≤ 3
  · have hB : tnB s = true := decide_eq_true h
    rw [hB] at hI
    have HI := Lib.hid hI
    rw [show tnV a s = tnW a s from if_pos hB, hB]
    have HN := Lib.hid (Next_yes a s (by omega) (by omega) la.1 la.2)
    unfold tnW
    clear la ls hB hI h
    go_enter Try.func76, Try.ntmps76
    go_wp2_with fail
    refine (HI.out _).mono ?_
    rintro e w' ⟨rfl, rfl⟩
    go_wp2_with fail
    refine (HN.out _).mono ?_
    rintro e w' ⟨rfl, rfl⟩
    go_wp2_with fail
    go_ret2
    exact ⟨rfl, Below.refl _ _⟩
  · have hB : tnB s = false := decide_eq_false h
    rw [hB] at hI
    have HI := Lib.hid hI
    rw [show tnV a s = 0 from if_neg (by rw [hB]; decide), hB]
    clear h hB hI
    go_enter Try.func76, Try.ntmps76
    go_wp2_with fail
    refine (HI.out _).mono ?_
    rintro e w' ⟨rfl, rfl⟩
    go_wp2_with fail
    go_ret2
    exact ⟨rfl, Below.refl _ _⟩
theorem below_more {w a b : World} (h : Below w.heap.size w a) (k : Below a.heap.size a b) : Below w.heap.size w b := h.trans (k.mono h.size)
end Go.Proofs.Ytljimbkafijnnaa
