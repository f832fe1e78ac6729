import Derived.Test.YtljimbkafijnnaaRows
import Derived.Test.YtljimbkafijnnaaRet
import Derived.WalkKit
import Derived.ProofKit
import Derived.OpenShut
import Derived.Laws.BitsLemmas
import Derived.Lib.Hide
namespace Go.Proofs.Ytljimbkafijnnaa
open Go.ChangeShapes Go.WideShapes Go.ChangeAt Go.RowKit
set_option linter.unusedVariables false

def pver (w : Int) : Int := w / 4294967296 % 4294967296
def pval (w : Int) : Int := wrap32 w
def pmk (v x : Int) : Int := v * 4294967296 + x % 4294967296
theorem pver_bd (w : Int) : 0 ≤ pver w ∧ pver w ≤ 4294967295 := by unfold pver; omega
theorem pval_bd (w : Int) : -2147483648 ≤ pval w ∧ pval w ≤ 2147483647 := by unfold pval wrap32; omega
theorem pmk_bd (v x : Int) (h0 : 0 ≤ v) (h1 : v ≤ 4294967295) : 0 ≤ pmk v x ∧ pmk v x ≤ 18446744073709551615 := by unfold pmk; omega
theorem or_pair (a b : Int) (h0 : 0 ≤ a) (h1 : a ≤ 4294967295) : bits BinOp.or IntKind.u64 (a * 4294967296) (b % 4294967296) = pmk a b := by
  rw [bits_join .u64 64 (by decide) (fun n h0 h1 => IntWalk.u64_in n (by omega)) 32 (a * 4294967296) (b % 4294967296) (by omega) (by omega) (by omega) (by omega) (by omega) (Int.lt_trans (Int.emod_lt_of_pos b (by decide)) (by decide))]
  rfl

theorem version_any (a : Int) (h0 : 0 ≤ a) (h1 : a ≤ 18446744073709551615) (w : World) :
    Calls Try.prog 100 #[.int .u64 a] w fun e w' => e = .returned (.int .u32 (pver a)) ∧ w = w' := by
  go_enter Try.func100, Try.ntmps100
  go_wp2
  go_ret
  exact ⟨ret_int (by unfold pver; omega), rfl⟩
theorem value_any (a : Int) (h0 : 0 ≤ a) (h1 : a ≤ 18446744073709551615) (w : World) :
    Calls Try.prog 75 #[.int .u64 a] w fun e w' => e = .returned (.int .i32 (pval a)) ∧ w = w' := by
  go_enter Try.func75, Try.ntmps75
  go_wp2
  go_ret
  exact ⟨rfl, rfl⟩
theorem pair_any (a b : Int) (h0 : 0 ≤ a) (h1 : a ≤ 4294967295) (h2 : -2147483648 ≤ b) (h3 : b ≤ 2147483647)  (w : World) :
    Calls Try.prog 99 #[.int .u32 a, .int .i32 b] w fun e w' => e = .returned (.int .u64 (pmk a b)) ∧ w = w' := by
  have H := Lib.hid (or_pair a b h0 h1)
  go_enter Try.func99, Try.ntmps99
  go_wp2
  go_ret
  exact ⟨ret_int H.out, rfl⟩
theorem next_any (a b : Int) (h0 : 0 ≤ a) (h1 : a ≤ 18446744073709551615) (h2 : -2147483648 ≤ b) (h3 : b ≤ 2147483647)  (w : World) :
    Calls Try.prog 97 #[.int .u64 a, .int .i32 b] w fun e w' => e = .returned (.int .u64 (pmk ((pver a + 1) % 4294967296) b)) ∧ w = w' := by
  have H := pver_bd a
  go_enter Try.func97, Try.ntmps97
  go_wp2_with (first | (go_at_call 100; refine (version_any _ (by omega) (by omega) _).mono ?_; rintro e w' ⟨rfl, rfl⟩) | (go_at_call 99; refine (pair_any _ _ (by omega) (by omega) (by omega) (by omega) _).mono ?_; rintro e w' ⟨rfl, rfl⟩))
  go_ret
  exact ⟨rfl, rfl⟩

def sg (n : Int) : Int := wrap64 n
theorem bne_f {a b : Int} (h : a = b) : (a != b) = false := by rw [h]; simp
theorem bne_t {a b : Int} (h : a ≠ b) : (a != b) = true := by simp [h]

theorem put_no (f : Fn) (c : Array Value) (d) (b : Int) (h : ¬ (-2147483648 ≤ b ∧ b ≤ 2147483647)) (h0 : -9223372036854775808 ≤ b) (h1 : b ≤ 9223372036854775807) (w : World) :
    Calls Try.prog 96 #[.func f c d, .int .i64 b] w fun e w' => e = .returned (.tuple #[.int .i64 0, .bool false]) ∧ w = w' := by
  have H : (wrap64 (wrap32 b) != b) = true := bne_t (by unfold wrap64 wrap32; omega)
  clear h
  go_enter Try.func96, Try.ntmps96
  go_wp2
  go_ret2
  exact ⟨rfl, rfl⟩
theorem put_next (a b : Int) (h0 : 0 ≤ a) (h1 : a ≤ 18446744073709551615) (h2 : -2147483648 ≤ b) (h3 : b ≤ 2147483647) (w : World) :
    Calls Try.prog 96 #[.func (Fn.func 97) #[.int .u64 a] #[], .int .i64 b] w fun e w' => e = .returned (.tuple #[.int .i64 (sg (pmk ((pver a + 1) % 4294967296) b)), .bool true]) ∧ w = w' := by
  go_enter Try.func96, Try.ntmps96
  go_wp2_with (go_at_call 97; refine (next_any _ _ (by omega) (by omega) (by omega) (by omega) _).mono ?_; rintro e w' ⟨rfl, rfl⟩)
  go_ret2
  exact ⟨rfl, rfl⟩
theorem pver_pmk0 (a : Int) (h0 : 0 ≤ a) (h1 : a ≤ 4294967295) : pver (pmk a 0) = a := by unfold pver pmk; omega
theorem Next_no (a b : Int) (h : ¬ (-2147483648 ≤ b ∧ b ≤ 2147483647)) (ha : -9223372036854775808 ≤ a) (ha1 : a ≤ 9223372036854775807) (hb : -9223372036854775808 ≤ b) (hb1 : b ≤ 9223372036854775807) (w : World) :
    Calls Try.prog 88 #[.int .i64 a, .int .i64 b] w fun e w' => e = .returned (.tuple #[.int .i64 0, .bool false]) ∧ w = w' := by
  go_enter Try.func88, Try.ntmps88
  go_wp2_with (go_at_call 96; refine (put_no _ _ _ _ h (by omega) (by omega) _).mono ?_; rintro e w' ⟨rfl, rfl⟩)
  go_ret2
  exact ⟨rfl, rfl⟩
theorem u64_eq (a : Int) : IntKind.u64.wrap a = a % 18446744073709551616 := by simp [IntKind.wrap, IntKind.bits, IntKind.signed]
theorem u64_bd (a : Int) : 0 ≤ IntKind.u64.wrap a ∧ IntKind.u64.wrap a ≤ 18446744073709551615 := by rw [u64_eq]; omega
theorem pver_mod (a : Int) : pver (IntKind.u64.wrap a) = pver a := by rw [u64_eq]; unfold pver; omega
theorem pval_mod (a : Int) : pval (IntKind.u64.wrap a) = pval a := by rw [u64_eq]; unfold pval wrap32; omega
theorem Next_yes (a b : Int) (h2 : -2147483648 ≤ b) (h3 : b ≤ 2147483647) (ha : -9223372036854775808 ≤ a) (ha1 : a ≤ 9223372036854775807) (w : World) :
    Calls Try.prog 88 #[.int .i64 a, .int .i64 b] w fun e w' => e = .returned (.tuple #[.int .i64 (sg (pmk ((pver a + 1) % 4294967296) b)), .bool true]) ∧ w = w' := by
  have H := Lib.hid (pver_mod a)
  have Hu := u64_bd a
  go_enter Try.func88, Try.ntmps88
  go_wp2_with (go_at_call 96; refine (put_next _ _ (by omega) (by omega) (by omega) (by omega) _).mono ?_; rintro e w' ⟨rfl, rfl⟩)
  go_ret2
  exact ⟨by rw [H.out]; rfl, rfl⟩
theorem Value_any (a : Int) (ha : -9223372036854775808 ≤ a) (ha1 : a ≤ 9223372036854775807) (w : World) :
    Calls Try.prog 49 #[.int .i64 a] w fun e w' => e = .returned (.int .i64 (pval a)) ∧ w = w' := by
  have H := Lib.hid (pval_mod a)
  have Hu := u64_bd a
  have H2 := pval_bd (IntKind.u64.wrap a)
  go_enter Try.func49, Try.ntmps49
  go_wp2_with (go_at_call 75; refine (value_any _ (by omega) (by omega) _).mono ?_; rintro e w' ⟨rfl, rfl⟩)
  go_ret
  exact ⟨ret_int H.out, rfl⟩
end Go.Proofs.Ytljimbkafijnnaa
