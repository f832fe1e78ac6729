/- Texts of elder layers, one behind the other: Ret, Pack, SlotMath. -/
import Derived.WalkKit
import Derived.ProofKit
import Derived.Test.YtjohngpbggendaaGreatRows
import Derived.OpenShut
import Derived.Laws.BitsLemmas
import Derived.Lib.Hide
section
/- Small equations that many texts use. No program in it. -/
namespace Go.Proofs.YtjohngpbggendaaGreat
open Go.RowKit
theorem ret_int {k : IntKind} {a b : Int} (h : a = b) : Ending.returned (.int k a) = .returned (.int k b) := by rw [h]
theorem beq_f {a b : Int} (h : a ≠ b) : (a == b) = false := by simp [h]
theorem beq_t {a b : Int} (h : a = b) : (a == b) = true := by simp [h]
end Go.Proofs.YtjohngpbggendaaGreat
end
section
namespace Go.Proofs.YtjohngpbggendaaGreat
open Go.ChangeShapes Go.WideShapes Go.ChangeAt Go.RowKit
set_option linter.unusedVariables false

def pver (w : Int) : Int := w / 4294967296 % 4294967296
def pval (w : Int) : Int := wrap32 w
def pmk (v x : Int) : Int := v * 4294967296 + x % 4294967296
theorem pver_bd (w : Int) : 0 ≤ pver w ∧ pver w ≤ 4294967295 := by unfold pver; omega
theorem pval_bd (w : Int) : -2147483648 ≤ pval w ∧ pval w ≤ 2147483647 := by unfold pval wrap32; omega
theorem or_pair (a b : Int) (h0 : 0 ≤ a) (h1 : a ≤ 4294967295) : bits BinOp.or IntKind.u64 (a * 4294967296) (b % 4294967296) = pmk a b := by
  rw [bits_join .u64 64 (by decide) (fun n h0 h1 => IntWalk.u64_in n (by omega)) 32 (a * 4294967296) (b % 4294967296) (by omega) (by omega) (by omega) (by omega) (by omega) (Int.lt_trans (Int.emod_lt_of_pos b (by decide)) (by decide))]
  rfl

theorem version_any (a : Int) (h0 : 0 ≤ a) (h1 : a ≤ 18446744073709551615) (w : World) :
    Calls Tryz.prog 167 #[.int .u64 a] w fun e w' => e = .returned (.int .u32 (pver a)) ∧ w = w' := by
  go_enter Tryz.func167, Tryz.ntmps167
  go_wp2
  go_ret
  exact ⟨ret_int (by unfold pver; omega), rfl⟩
theorem value_any (a : Int) (h0 : 0 ≤ a) (h1 : a ≤ 18446744073709551615) (w : World) :
    Calls Tryz.prog 117 #[.int .u64 a] w fun e w' => e = .returned (.int .i32 (pval a)) ∧ w = w' := by
  go_enter Tryz.func117, Tryz.ntmps117
  go_wp2
  go_ret
  exact ⟨rfl, rfl⟩
theorem pair_any (a b : Int) (h0 : 0 ≤ a) (h1 : a ≤ 4294967295) (h2 : -2147483648 ≤ b) (h3 : b ≤ 2147483647)  (w : World) :
    Calls Tryz.prog 160 #[.int .u32 a, .int .i32 b] w fun e w' => e = .returned (.int .u64 (pmk a b)) ∧ w = w' := by
  have H := Lib.hid (or_pair a b h0 h1)
  go_enter Tryz.func160, Tryz.ntmps160
  go_wp2
  go_ret
  exact ⟨ret_int H.out, rfl⟩
theorem next_any (a b : Int) (h0 : 0 ≤ a) (h1 : a ≤ 18446744073709551615) (h2 : -2147483648 ≤ b) (h3 : b ≤ 2147483647)  (w : World) :
    Calls Tryz.prog 179 #[.int .u64 a, .int .i32 b] w fun e w' => e = .returned (.int .u64 (pmk ((pver a + 1) % 4294967296) b)) ∧ w = w' := by
  have H := pver_bd a
  go_enter Tryz.func179, Tryz.ntmps179
  go_wp2_with (first | (go_at_call 167; refine (version_any _ (by omega) (by omega) _).mono ?_; rintro e w' ⟨rfl, rfl⟩) | (go_at_call 160; refine (pair_any _ _ (by omega) (by omega) (by omega) (by omega) _).mono ?_; rintro e w' ⟨rfl, rfl⟩))
  go_ret
  exact ⟨rfl, rfl⟩

def sg (n : Int) : Int := wrap64 n
theorem put_next (a b : Int) (h0 : 0 ≤ a) (h1 : a ≤ 18446744073709551615) (h2 : -2147483648 ≤ b) (h3 : b ≤ 2147483647) (w : World) :
    Calls Tryz.prog 159 #[.func (Fn.func 179) #[.int .u64 a] #[], .int .i64 b] w fun e w' => e = .returned (.tuple #[.int .i64 (sg (pmk ((pver a + 1) % 4294967296) b)), .bool true]) ∧ w = w' := by
  go_enter Tryz.func159, Tryz.ntmps159
  go_wp2_with (go_at_call 179; refine (next_any _ _ (by omega) (by omega) (by omega) (by omega) _).mono ?_; rintro e w' ⟨rfl, rfl⟩)
  go_ret2
  exact ⟨rfl, rfl⟩
theorem u64_eq (a : Int) : IntKind.u64.wrap a = a % 18446744073709551616 := by simp [IntKind.wrap, IntKind.bits, IntKind.signed]
theorem u64_bd (a : Int) : 0 ≤ IntKind.u64.wrap a ∧ IntKind.u64.wrap a ≤ 18446744073709551615 := by rw [u64_eq]; omega
theorem pver_mod (a : Int) : pver (IntKind.u64.wrap a) = pver a := by rw [u64_eq]; unfold pver; omega
theorem pval_mod (a : Int) : pval (IntKind.u64.wrap a) = pval a := by rw [u64_eq]; unfold pval wrap32; omega
theorem Next_yes (a b : Int) (h2 : -2147483648 ≤ b) (h3 : b ≤ 2147483647) (ha : -9223372036854775808 ≤ a) (ha1 : a ≤ 9223372036854775807) (w : World) :
    Calls Tryz.prog 168 #[.int .i64 a, .int .i64 b] w fun e w' => e = .returned (.tuple #[.int .i64 (sg (pmk ((pver a + 1) % 4294967296) b)), .bool true]) ∧ w = w' := by
  have H := Lib.hid (pver_mod a)
  have Hu := u64_bd a
  go_enter Tryz.func168, Tryz.ntmps168
  go_wp2_with (go_at_call 159; refine (put_next _ _ (by omega) (by omega) (by omega) (by omega) _).mono ?_; rintro e w' ⟨rfl, rfl⟩)
  go_ret2
  exact ⟨by rw [H.out]; rfl, rfl⟩
theorem Version_any (a : Int) (ha : -9223372036854775808 ≤ a) (ha1 : a ≤ 9223372036854775807) (w : World) :
    Calls Tryz.prog 141 #[.int .i64 a] w fun e w' => e = .returned (.int .i64 (pver a)) ∧ w = w' := by
  have H := Lib.hid (pver_mod a)
  have Hu := u64_bd a
  have H2 := pver_bd (IntKind.u64.wrap a)
  go_enter Tryz.func141, Tryz.ntmps141
  go_wp2_with (go_at_call 167; refine (version_any _ (by omega) (by omega) _).mono ?_; rintro e w' ⟨rfl, rfl⟩)
  go_ret
  exact ⟨ret_int H.out, rfl⟩
theorem Value_any (a : Int) (ha : -9223372036854775808 ≤ a) (ha1 : a ≤ 9223372036854775807) (w : World) :
    Calls Tryz.prog 65 #[.int .i64 a] w fun e w' => e = .returned (.int .i64 (pval a)) ∧ w = w' := by
  have H := Lib.hid (pval_mod a)
  have Hu := u64_bd a
  have H2 := pval_bd (IntKind.u64.wrap a)
  go_enter Tryz.func65, Tryz.ntmps65
  go_wp2_with (go_at_call 117; refine (value_any _ (by omega) (by omega) _).mono ?_; rintro e w' ⟨rfl, rfl⟩)
  go_ret
  exact ⟨ret_int H.out, rfl⟩
end Go.Proofs.YtjohngpbggendaaGreat
end
section
/- Chapter 10's words as plain functions. -/
namespace Go.Proofs.YtjohngpbggendaaGreat
open Go.ChangeShapes Go.WideShapes Go.ChangeAt Go.RowKit
set_option linter.unusedVariables false
abbrev W64 (a : Int) : Prop := -9223372036854775808 ≤ a ∧ a ≤ 9223372036854775807
def stS (w : Int) : Int := if 0 ≤ pval w ∧ pval w ≤ 3 then pval w else -1
def tnW (w s : Int) : Int := sg (pmk ((pver w + 1) % 4294967296) s)
def tnB (s : Int) : Bool := decide (0 ≤ s ∧ s ≤ 3)
def tnV (w s : Int) : Int := if tnB s = true then tnW w s else 0
def bdB (v n : Int) : Bool := decide (0 ≤ v ∧ v ≤ 11 ∧ 1 ≤ n ∧ n ≤ 1048576)
def bdV (v n : Int) : Int := if bdB v n = true then v * 2097152 + n else 0
def hdB (t : Int) : Bool := decide (0 ≤ t ∧ t ≤ 15)
def hdV (t w : Int) : Int := if hdB t = true then pver w * 16 + t else 0
theorem sg_bd' (n : Int) : W64 (sg n) := by unfold sg wrap64 W64; omega
theorem tnW_bd (w s : Int) : W64 (tnW w s) := sg_bd' _
theorem bdV_bd (v n : Int) : 0 ≤ bdV v n ∧ bdV v n ≤ 100000000 := by
  unfold bdV bdB; split
  · rename_i h; have := of_decide_eq_true h; omega
  · omega
theorem pval_sg (a b : Int) (h0 : 0 ≤ a) (h1 : a ≤ 4294967295) (h2 : -2147483648 ≤ b) (h3 : b ≤ 2147483647) : pval (sg (pmk a b)) = b := by unfold pval sg pmk wrap64 wrap32; omega
theorem stS_sg (a b : Int) (h0 : 0 ≤ a) (h1 : a ≤ 4294967295) (h2 : -2147483648 ≤ b) (h3 : b ≤ 2147483647) : stS (sg (pmk a b)) = if 0 ≤ b ∧ b ≤ 3 then b else -1 := by unfold stS; rw [pval_sg a b h0 h1 h2 h3]
theorem tn_st (w s : Int) (h0 : 0 ≤ s) (h1 : s ≤ 3) : stS (tnW w s) = s := by
  unfold tnW; rw [stS_sg _ _ (by omega) (by omega) (by omega) (by omega), if_pos ⟨h0, h1⟩]
end Go.Proofs.YtjohngpbggendaaGreat
end
