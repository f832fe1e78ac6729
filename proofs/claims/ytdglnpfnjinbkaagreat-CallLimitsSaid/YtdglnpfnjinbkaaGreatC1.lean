/- Texts of elder layers, one behind the other: Ret, Pack, SlotMath. -/
import Derived.WalkKit
import Derived.ProofKit
import Derived.Test.YtdglnpfnjinbkaaGreatRows
import Derived.OpenShut
import Derived.Laws.BitsLemmas
import Derived.Lib.Hide
namespace Go.Proofs.YtdglnpfnjinbkaaGreat
open Go.ChangeShapes Go.WideShapes Go.ChangeAt Go.RowKit
open Lib (hid)
set_option linter.unusedVariables false
set_option linter.unusedSimpArgs false
set_option maxRecDepth 100000
set_option maxHeartbeats 4000000
section
theorem zVl {k : IntKind} {a b : Int} (h : a = b) : Ending.returned (.int k a) = .returned (.int k b) := by rw [h]
theorem beq_f {a b : Int} (h : a ≠ b) : (a == b) = false := by simp [h]
theorem beq_t {a b : Int} (h : a = b) : (a == b) = true := by simp [h]
end
section
def pver (w : Int) : Int := w / 4294967296 % 4294967296
def pval (w : Int) : Int := wrap32 w
def pmk (v x : Int) : Int := v * 4294967296 + x % 4294967296
theorem zWm (w : Int) : 0 <= pver w /\ pver w <= 4294967295 := by unfold pver; omega
theorem zQe (w : Int) : -2147483648 <= pval w /\ pval w <= 2147483647 := by unfold pval wrap32; omega
theorem pmk_bd (v x : Int) (h0 : 0 <= v) (h1 : v <= 4294967295) : 0 <= pmk v x /\ pmk v x <= 18446744073709551615 := by unfold pmk; omega
theorem or_pair (a b : Int) (h0 : 0 <= a) (h1 : a <= 4294967295) : bits BinOp.or IntKind.u64 (a * 4294967296) (b % 4294967296) = pmk a b := by
 rw [bits_join .u64 64 (by decide) (fun n h0 h1 => IntWalk.u64_in n (by omega)) 32 (a * 4294967296) (b % 4294967296) (by omega) (by omega) (by omega) (by omega) (by omega) (Int.lt_trans (Int.emod_lt_of_pos b (by decide)) (by decide))]
 rfl
theorem zVh (a : Int) (h0 : 0 <= a) (h1 : a <= 18446744073709551615) (w : World) :
 Calls Tryz.prog 215 #[.int .u64 a] w fun e w' => e = .returned (.int .u32 (pver a)) /\ w = w' := by
 go_enter Tryz.func215, Tryz.ntmps215
 go_wp2
 go_ret
 exact ⟨zVl (by unfold pver; omega), rfl⟩
theorem value_any (a : Int) (h0 : 0 <= a) (h1 : a <= 18446744073709551615) (w : World) :
 Calls Tryz.prog 234 #[.int .u64 a] w fun e w' => e = .returned (.int .i32 (pval a)) /\ w = w' := by
 go_enter Tryz.func234, Tryz.ntmps234
 go_wp2
 go_ret
 exact ⟨rfl, rfl⟩
theorem zTb (a b : Int) (h0 : 0 <= a) (h1 : a <= 4294967295) (h2 : -2147483648 <= b) (h3 : b <= 2147483647)  (w : World) :
 Calls Tryz.prog 211 #[.int .u32 a, .int .i32 b] w fun e w' => e = .returned (.int .u64 (pmk a b)) /\ w = w' := by
 have H := hid (or_pair a b h0 h1)
 go_enter Tryz.func211, Tryz.ntmps211
 go_wp2
 go_ret
 exact ⟨zVl H.out, rfl⟩
theorem with_any (a b : Int) (h0 : 0 <= a) (h1 : a <= 18446744073709551615) (h2 : -2147483648 <= b) (h3 : b <= 2147483647)  (w : World) :
 Calls Tryz.prog 212 #[.int .u64 a, .int .i32 b] w fun e w' => e = .returned (.int .u64 (pmk (pver a) b)) /\ w = w' := by
 have H := zWm a
 go_enter Tryz.func212, Tryz.ntmps212
 go_wp2_with (first | (go_at_call 215; refine (zVh _ (by omega) (by omega) _).mono ?_; rintro e w' ⟨rfl, rfl⟩) | (go_at_call 211; refine (zTb _ _ (by omega) (by omega) (by omega) (by omega) _).mono ?_; rintro e w' ⟨rfl, rfl⟩))
 go_ret
 exact ⟨rfl, rfl⟩
theorem next_any (a b : Int) (h0 : 0 <= a) (h1 : a <= 18446744073709551615) (h2 : -2147483648 <= b) (h3 : b <= 2147483647)  (w : World) :
 Calls Tryz.prog 244 #[.int .u64 a, .int .i32 b] w fun e w' => e = .returned (.int .u64 (pmk ((pver a + 1) % 4294967296) b)) /\ w = w' := by
 have H := zWm a
 go_enter Tryz.func244, Tryz.ntmps244
 go_wp2_with (first | (go_at_call 215; refine (zVh _ (by omega) (by omega) _).mono ?_; rintro e w' ⟨rfl, rfl⟩) | (go_at_call 211; refine (zTb _ _ (by omega) (by omega) (by omega) (by omega) _).mono ?_; rintro e w' ⟨rfl, rfl⟩))
 go_ret
 exact ⟨rfl, rfl⟩
def sg (n : Int) : Int := wrap64 n
theorem bne_t {a b : Int} (h : a ≠ b) : (a != b) = true := by simp [h]
theorem put_no (f : Fn) (c : Array Value) (d) (b : Int) (h : ¬ (-2147483648 <= b /\ b <= 2147483647)) (h0 : -9223372036854775808 <= b) (h1 : b <= 9223372036854775807) (w : World) :
 Calls Tryz.prog 210 #[.func f c d, .int .i64 b] w fun e w' => e = .returned (.tuple #[.int .i64 0, .bool false]) /\ w = w' := by
 have H : (wrap64 (wrap32 b) != b) = true := bne_t (by unfold wrap64 wrap32; omega)
 clear h
 go_enter Tryz.func210, Tryz.ntmps210
 go_wp2
 go_ret2
 exact ⟨rfl, rfl⟩
theorem put_with (a b : Int) (h0 : 0 <= a) (h1 : a <= 18446744073709551615) (h2 : -2147483648 <= b) (h3 : b <= 2147483647) (w : World) :
 Calls Tryz.prog 210 #[.func (Fn.func 212) #[.int .u64 a] #[], .int .i64 b] w fun e w' => e = .returned (.tuple #[.int .i64 (sg (pmk (pver a) b)), .bool true]) /\ w = w' := by
 go_enter Tryz.func210, Tryz.ntmps210
 go_wp2_with (go_at_call 212; refine (with_any _ _ (by omega) (by omega) (by omega) (by omega) _).mono ?_; rintro e w' ⟨rfl, rfl⟩)
 go_ret2
 exact ⟨rfl, rfl⟩
theorem put_next (a b : Int) (h0 : 0 <= a) (h1 : a <= 18446744073709551615) (h2 : -2147483648 <= b) (h3 : b <= 2147483647) (w : World) :
 Calls Tryz.prog 210 #[.func (Fn.func 244) #[.int .u64 a] #[], .int .i64 b] w fun e w' => e = .returned (.tuple #[.int .i64 (sg (pmk ((pver a + 1) % 4294967296) b)), .bool true]) /\ w = w' := by
 go_enter Tryz.func210, Tryz.ntmps210
 go_wp2_with (go_at_call 244; refine (next_any _ _ (by omega) (by omega) (by omega) (by omega) _).mono ?_; rintro e w' ⟨rfl, rfl⟩)
 go_ret2
 exact ⟨rfl, rfl⟩
theorem pver_pmk0 (a : Int) (h0 : 0 <= a) (h1 : a <= 4294967295) : pver (pmk a 0) = a := by unfold pver pmk; omega
theorem word_yes (a b : Int) (h0 : 0 <= a) (h1 : a <= 4294967295) (h2 : -2147483648 <= b) (h3 : b <= 2147483647)  (w : World) :
 Calls Tryz.prog 166 #[.int .i64 a, .int .i64 b] w fun e w' => e = .returned (.tuple #[.int .i64 (sg (pmk a b)), .bool true]) /\ w = w' := by
 have H := hid (pver_pmk0 a h0 h1)
 have Hb := pmk_bd a 0 h0 h1
 go_enter Tryz.func166, Tryz.ntmps166
 go_wp2_with (first | (go_at_call 211; refine (zTb _ _ (by omega) (by omega) (by omega) (by omega) _).mono ?_; rintro e w' ⟨rfl, rfl⟩) | (go_at_call 210; refine (put_with _ _ (by omega) (by omega) (by omega) (by omega) _).mono ?_; rintro e w' ⟨rfl, rfl⟩))
 go_ret2
 exact ⟨by rw [H.out]; rfl, rfl⟩
theorem word_no (a b : Int) (h : ¬ (0 <= a /\ a <= 4294967295 /\ -2147483648 <= b /\ b <= 2147483647)) (ha : -9223372036854775808 <= a) (ha1 : a <= 9223372036854775807) (hb : -9223372036854775808 <= b) (hb1 : b <= 9223372036854775807) (w : World) :
 Calls Tryz.prog 166 #[.int .i64 a, .int .i64 b] w fun e w' => e = .returned (.tuple #[.int .i64 0, .bool false]) /\ w = w' := by
 by_cases h0 : 0 <= a /\ a <= 4294967295
 ·obtain ⟨h0, h1⟩ := h0
  have hn : ¬ (-2147483648 <= b /\ b <= 2147483647) := fun hh => h ⟨h0, h1, hh⟩
  clear h
  go_enter Tryz.func166, Tryz.ntmps166
  go_wp2_with (first | (go_at_call 211; refine (zTb _ _ (by omega) (by omega) (by omega) (by omega) _).mono ?_; rintro e w' ⟨rfl, rfl⟩) | (go_at_call 210; refine (put_no _ _ _ _ hn (by omega) (by omega) _).mono ?_; rintro e w' ⟨rfl, rfl⟩))
  go_ret2
  exact ⟨rfl, rfl⟩
 ·have H : (a % 4294967296 != a) = true := bne_t (by omega)
  clear h h0
  go_enter Tryz.func166, Tryz.ntmps166
  go_wp2
  go_ret2
  exact ⟨rfl, rfl⟩
theorem u64_eq (a : Int) : IntKind.u64.wrap a = a % 18446744073709551616 := by simp [IntKind.wrap, IntKind.bits, IntKind.signed]
theorem u64_bd (a : Int) : 0 <= IntKind.u64.wrap a /\ IntKind.u64.wrap a <= 18446744073709551615 := by rw [u64_eq]; omega
theorem pver_mod (a : Int) : pver (IntKind.u64.wrap a) = pver a := by rw [u64_eq]; unfold pver; omega
theorem pval_mod (a : Int) : pval (IntKind.u64.wrap a) = pval a := by rw [u64_eq]; unfold pval wrap32; omega
theorem Next_yes (a b : Int) (h2 : -2147483648 <= b) (h3 : b <= 2147483647) (ha : -9223372036854775808 <= a) (ha1 : a <= 9223372036854775807) (w : World) :
 Calls Tryz.prog 233 #[.int .i64 a, .int .i64 b] w fun e w' => e = .returned (.tuple #[.int .i64 (sg (pmk ((pver a + 1) % 4294967296) b)), .bool true]) /\ w = w' := by
 have H := hid (pver_mod a)
 have Hu := u64_bd a
 go_enter Tryz.func233, Tryz.ntmps233
 go_wp2_with (go_at_call 210; refine (put_next _ _ (by omega) (by omega) (by omega) (by omega) _).mono ?_; rintro e w' ⟨rfl, rfl⟩)
 go_ret2
 exact ⟨by rw [H.out]; rfl, rfl⟩
theorem zWc (a : Int) (ha : -9223372036854775808 <= a) (ha1 : a <= 9223372036854775807) (w : World) :
 Calls Tryz.prog 169 #[.int .i64 a] w fun e w' => e = .returned (.int .i64 (pver a)) /\ w = w' := by
 have H := hid (pver_mod a)
 have Hu := u64_bd a
 have H2 := zWm (IntKind.u64.wrap a)
 go_enter Tryz.func169, Tryz.ntmps169
 go_wp2_with (go_at_call 215; refine (zVh _ (by omega) (by omega) _).mono ?_; rintro e w' ⟨rfl, rfl⟩)
 go_ret
 exact ⟨zVl H.out, rfl⟩
theorem zUi (a : Int) (ha : -9223372036854775808 <= a) (ha1 : a <= 9223372036854775807) (w : World) :
 Calls Tryz.prog 216 #[.int .i64 a] w fun e w' => e = .returned (.int .i64 (pval a)) /\ w = w' := by
 have H := hid (pval_mod a)
 have Hu := u64_bd a
 have H2 := zQe (IntKind.u64.wrap a)
 go_enter Tryz.func216, Tryz.ntmps216
 go_wp2_with (go_at_call 234; refine (value_any _ (by omega) (by omega) _).mono ?_; rintro e w' ⟨rfl, rfl⟩)
 go_ret
 exact ⟨zVl H.out, rfl⟩
end
section
abbrev W64 (a : Int) : Prop := -9223372036854775808 <= a /\ a <= 9223372036854775807
def stS (w : Int) : Int := if 0 <= pval w /\ pval w <= 3 then pval w else -1
def tnW (w s : Int) : Int := sg (pmk ((pver w + 1) % 4294967296) s)
def tnB (s : Int) : Bool := decide (0 <= s /\ s <= 3)
def tnV (w s : Int) : Int := if tnB s = true then tnW w s else 0
def bdB (v n : Int) : Bool := decide (0 <= v /\ v <= 11 /\ 1 <= n /\ n <= 1048576)
def bdV (v n : Int) : Int := if bdB v n = true then v * 2097152 + n else 0
def ofB (w : Int) : Bool := decide (0 <= w /\ w / 2097152 <= 11 /\ 1 <= w % 2097152 /\ w % 2097152 <= 1048576)
def ofV (w : Int) : Int := if ofB w = true then w / 2097152 else 0
def ofN (w : Int) : Int := if ofB w = true then w % 2097152 else 0
def hdB (t : Int) : Bool := decide (0 <= t /\ t <= 15)
def hdV (t w : Int) : Int := if hdB t = true then pver w * 16 + t else 0
def nmB (h k : Int) : Bool := decide (0 <= h /\ h % 16 < k /\ h / 16 <= 4294967295)
def nmT (h k : Int) : Int := if nmB h k = true then h % 16 else 0
def nmV (h k : Int) : Int := if nmB h k = true then h / 16 else 0
theorem sg_bd' (n : Int) : W64 (sg n) := by unfold sg wrap64 W64; omega
theorem tnW_bd (w s : Int) : W64 (tnW w s) := sg_bd' _
theorem bdV_bd (v n : Int) : 0 <= bdV v n /\ bdV v n <= 100000000 := by
 unfold bdV bdB; split
 ·rename_i h; have := of_decide_eq_true h; omega
 ·omega
theorem hdV_bd (t w : Int) : 0 <= hdV t w /\ hdV t w <= 68719476735 := by
 have := zWm w
 unfold hdV hdB; split
 ·rename_i h; have := of_decide_eq_true h; omega
 ·omega
theorem pver_sg (a b : Int) (h0 : 0 <= a) (h1 : a <= 4294967295) : pver (sg (pmk a b)) = a := by unfold pver sg pmk wrap64; omega
theorem pval_sg (a b : Int) (h0 : 0 <= a) (h1 : a <= 4294967295) (h2 : -2147483648 <= b) (h3 : b <= 2147483647) : pval (sg (pmk a b)) = b := by unfold pval sg pmk wrap64 wrap32; omega
theorem stS_sg (a b : Int) (h0 : 0 <= a) (h1 : a <= 4294967295) (h2 : -2147483648 <= b) (h3 : b <= 2147483647) : stS (sg (pmk a b)) = if 0 <= b /\ b <= 3 then b else -1 := by unfold stS; rw [pval_sg a b h0 h1 h2 h3]
theorem tn_st (w s : Int) (h0 : 0 <= s) (h1 : s <= 3) : stS (tnW w s) = s := by
 unfold tnW; rw [stS_sg _ _ (by omega) (by omega) (by omega) (by omega), if_pos ⟨h0, h1⟩]
theorem tn_ver (w s : Int) : pver (tnW w s) = (pver w + 1) % 4294967296 := pver_sg _ _ (by omega) (by omega)
theorem bd_of (v n : Int) (h : bdB v n = true) : ofB (bdV v n) = true /\ ofV (bdV v n) = v /\ ofN (bdV v n) = n := by
 have hb : bdV v n = v * 2097152 + n := if_pos h
 have hh := of_decide_eq_true h
 have e : ofB (bdV v n) = true := by rw [hb]; exact decide_eq_true (by omega)
 refine ⟨e, ?_, ?_⟩
 ·unfold ofV; rw [if_pos e, hb]; omega
 ·unfold ofN; rw [if_pos e, hb]; omega
theorem of_bd (w : Int) (h : ofB w = true) : bdB (ofV w) (ofN w) = true /\ bdV (ofV w) (ofN w) = w := by
 have hh := of_decide_eq_true h
 have e1 : ofV w = w / 2097152 := if_pos h
 have e2 : ofN w = w % 2097152 := if_pos h
 have e : bdB (ofV w) (ofN w) = true := by rw [e1, e2]; exact decide_eq_true (by omega)
 refine ⟨e, ?_⟩
 unfold bdV; rw [if_pos e, e1, e2]; omega
theorem hd_nm (t w : Int) (h : hdB t = true) : nmB (hdV t w) 16 = true /\ nmT (hdV t w) 16 = t /\ nmV (hdV t w) 16 = pver w := by
 have hb : hdV t w = pver w * 16 + t := if_pos h
 have hh := of_decide_eq_true h
 have hv := zWm w
 have e : nmB (hdV t w) 16 = true := by rw [hb]; exact decide_eq_true (by omega)
 refine ⟨e, ?_, ?_⟩
 ·unfold nmT; rw [if_pos e, hb]; omega
 ·unfold nmV; rw [if_pos e, hb]; omega
theorem nm_hd (h k : Int) (hk : k <= 16) (hh : nmB h k = true) : 0 <= nmV h k /\ nmV h k <= 4294967295 /\ 0 <= nmT h k /\ nmT h k < k /\ hdB (nmT h k) = true /\ hdV (nmT h k) (sg (pmk (nmV h k) 0)) = h := by
 have q := of_decide_eq_true hh
 have e1 : nmT h k = h % 16 := if_pos hh
 have e2 : nmV h k = h / 16 := if_pos hh
 have e : hdB (nmT h k) = true := by rw [e1]; exact decide_eq_true (by omega)
 refine ⟨by rw [e2]; omega, by rw [e2]; omega, by rw [e1]; omega, by rw [e1]; omega, e, ?_⟩
 unfold hdV; rw [if_pos e, pver_sg _ _ (by rw [e2]; omega) (by rw [e2]; omega), e1, e2]; omega
end
end Go.Proofs.YtdglnpfnjinbkaaGreat
