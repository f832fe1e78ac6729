/- Texts of elder layers, one behind the other: Ret, Pack, SlotMath. -/
import Derived.WalkKit
import Derived.ProofKit
import Derived.Test.YtlpdafldabfiaaaGreatRows
import Derived.OpenShut
import Derived.Laws.BitsLemmas
import Derived.Lib.Hide
section
namespace Go.Proofs.YtlpdafldabfiaaaGreat
open Go.RowKit
theorem ret_int {k : IntKind} {a b : Int} (h : a = b) : Ending.returned (.int k a) = .returned (.int k b) := by rw [h]
theorem beq_f {a b : Int} (h : a ≠ b) : (a == b) = false := by simp [h]
theorem beq_t {a b : Int} (h : a = b) : (a == b) = true := by simp [h]
end Go.Proofs.YtlpdafldabfiaaaGreat
end
section
namespace Go.Proofs.YtlpdafldabfiaaaGreat
open Go.ChangeShapes Go.WideShapes Go.ChangeAt Go.RowKit
set_option linter.unusedVariables false

def pver (w : Int) : Int := w / 4294967296 % 4294967296
def pval (w : Int) : Int := wrap32 w
def pmk (v x : Int) : Int := v * 4294967296 + x % 4294967296
theorem pver_bd (w : Int) : 0 ≤ pver w ∧ pver w ≤ 4294967295 := by unfold pver; omega
theorem pval_bd (w : Int) : -2147483648 ≤ pval w ∧ pval w ≤ 2147483647 := by unfold pval wrap32; omega
theorem or_pair (a b : Int) (h0 : 0 ≤ a) (h1 : a ≤ 4294967295) : bits BinOp.or IntKind.u64 (a * 4294967296) (b % 4294967296) = pmk a b := by
  rw [bits_join .u64 64 (by decide) (fun n h0 h1 => IntWalk.u64_in n (by omega)) 32 (a * 4294967296) (b % 4294967296) (by omega) (by omega) (by omega) (by omega) (by omega) (Int.lt_trans (Int.emod_lt_of_pos b (by decide)) (by decide))]
  rfl

theorem value_any (a : Int) (h0 : 0 ≤ a) (h1 : a ≤ 18446744073709551615) (w : World) :
    Calls Tryz.prog 111 #[.int .u64 a] w fun e w' => e = .returned (.int .i32 (pval a)) ∧ w = w' := by
  go_enter Tryz.func111, Tryz.ntmps111
  go_wp2
  go_ret
  exact ⟨rfl, rfl⟩
def sg (n : Int) : Int := wrap64 n
theorem u64_eq (a : Int) : IntKind.u64.wrap a = a % 18446744073709551616 := by simp [IntKind.wrap, IntKind.bits, IntKind.signed]
theorem u64_bd (a : Int) : 0 ≤ IntKind.u64.wrap a ∧ IntKind.u64.wrap a ≤ 18446744073709551615 := by rw [u64_eq]; omega
theorem pval_mod (a : Int) : pval (IntKind.u64.wrap a) = pval a := by rw [u64_eq]; unfold pval wrap32; omega
theorem Value_any (a : Int) (ha : -9223372036854775808 ≤ a) (ha1 : a ≤ 9223372036854775807) (w : World) :
    Calls Tryz.prog 67 #[.int .i64 a] w fun e w' => e = .returned (.int .i64 (pval a)) ∧ w = w' := by
  have H := Lib.hid (pval_mod a)
  have Hu := u64_bd a
  have H2 := pval_bd (IntKind.u64.wrap a)
  go_enter Tryz.func67, Tryz.ntmps67
  go_wp2_with (go_at_call 111; refine (value_any _ (by omega) (by omega) _).mono ?_; rintro e w' ⟨rfl, rfl⟩)
  go_ret
  exact ⟨ret_int H.out, rfl⟩
end Go.Proofs.YtlpdafldabfiaaaGreat
end
section
namespace Go.Proofs.YtlpdafldabfiaaaGreat
open Go.ChangeShapes Go.WideShapes Go.ChangeAt Go.RowKit
set_option linter.unusedVariables false
abbrev W64 (a : Int) : Prop := -9223372036854775808 ≤ a ∧ a ≤ 9223372036854775807
def stS (w : Int) : Int := if 0 ≤ pval w ∧ pval w ≤ 3 then pval w else -1
def tnW (w s : Int) : Int := sg (pmk ((pver w + 1) % 4294967296) s)
def tnB (s : Int) : Bool := decide (0 ≤ s ∧ s ≤ 3)
def tnV (w s : Int) : Int := if tnB s = true then tnW w s else 0
def bdB (v n : Int) : Bool := decide (0 ≤ v ∧ v ≤ 11 ∧ 1 ≤ n ∧ n ≤ 1048576)
def bdV (v n : Int) : Int := if bdB v n = true then v * 2097152 + n else 0
def ofB (w : Int) : Bool := decide (0 ≤ w ∧ w / 2097152 ≤ 11 ∧ 1 ≤ w % 2097152 ∧ w % 2097152 ≤ 1048576)
def ofV (w : Int) : Int := if ofB w = true then w / 2097152 else 0
def ofN (w : Int) : Int := if ofB w = true then w % 2097152 else 0
def hdB (t : Int) : Bool := decide (0 ≤ t ∧ t ≤ 15)
def hdV (t w : Int) : Int := if hdB t = true then pver w * 16 + t else 0
def nmB (h k : Int) : Bool := decide (0 ≤ h ∧ h % 16 < k ∧ h / 16 ≤ 4294967295)
def nmT (h k : Int) : Int := if nmB h k = true then h % 16 else 0
def nmV (h k : Int) : Int := if nmB h k = true then h / 16 else 0
theorem sg_bd' (n : Int) : W64 (sg n) := by unfold sg wrap64 W64; omega
theorem tnW_bd (w s : Int) : W64 (tnW w s) := sg_bd' _
theorem bdV_bd (v n : Int) : 0 ≤ bdV v n ∧ bdV v n ≤ 100000000 := by
  unfold bdV bdB; split
  · rename_i h; have := of_decide_eq_true h; omega
  · omega
theorem pval_sg (a b : Int) (h0 : 0 ≤ a) (h1 : a ≤ 4294967295) (h2 : -2147483648 ≤ b) (h3 : b ≤ 2147483647) : pval (sg (pmk a b)) = b := by unfold pval sg pmk wrap64 wrap32; omega
theorem stS_sg (a b : Int) (h0 : 0 ≤ a) (h1 : a ≤ 4294967295) (h2 : -2147483648 ≤ b) (h3 : b ≤ 2147483647) : stS (sg (pmk a b)) = if 0 ≤ b ∧ b ≤ 3 then b else -1 := by unfold stS; rw [pval_sg a b h0 h1 h2 h3]
theorem tn_st (w s : Int) (h0 : 0 ≤ s) (h1 : s ≤ 3) : stS (tnW w s) = s := by
  unfold tnW; rw [stS_sg _ _ (by omega) (by omega) (by omega) (by omega), if_pos ⟨h0, h1⟩]
theorem bd_of (v n : Int) (h : bdB v n = true) : ofB (bdV v n) = true ∧ ofV (bdV v n) = v ∧ ofN (bdV v n) = n := by
  have hb : bdV v n = v * 2097152 + n := if_pos h
  have hh := of_decide_eq_true h
  have e : ofB (bdV v n) = true := by rw [hb]; exact decide_eq_true (by omega)
  refine ⟨e, ?_, ?_⟩
  · unfold ofV; rw [if_pos e, hb]; omega
  · unfold ofN; rw [if_pos e, hb]; omega
theorem of_bd (w : Int) (h : ofB w = true) : bdB (ofV w) (ofN w) = true ∧ bdV (ofV w) (ofN w) = w := by
  have hh := of_decide_eq_true h
  have e1 : ofV w = w / 2097152 := if_pos h
  have e2 : ofN w = w % 2097152 := if_pos h
  have e : bdB (ofV w) (ofN w) = true := by rw [e1, e2]; exact decide_eq_true (by omega)
  refine ⟨e, ?_⟩
  unfold bdV; rw [if_pos e, e1, e2]; omega
theorem hd_nm (t w : Int) (h : hdB t = true) : nmB (hdV t w) 16 = true ∧ nmT (hdV t w) 16 = t ∧ nmV (hdV t w) 16 = pver w := by
  have hb : hdV t w = pver w * 16 + t := if_pos h
  have hh := of_decide_eq_true h
  have hv := pver_bd w
  have e : nmB (hdV t w) 16 = true := by rw [hb]; exact decide_eq_true (by omega)
  refine ⟨e, ?_, ?_⟩
  · unfold nmT; rw [if_pos e, hb]; omega
  · unfold nmV; rw [if_pos e, hb]; omega
end Go.Proofs.YtlpdafldabfiaaaGreat
end
