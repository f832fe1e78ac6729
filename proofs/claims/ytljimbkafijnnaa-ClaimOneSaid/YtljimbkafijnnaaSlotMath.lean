/- Chapter 10's words as plain functions. -/
import Derived.Test.YtljimbkafijnnaaPack
namespace Go.Proofs.Ytljimbkafijnnaa
open Go.ChangeShapes Go.WideShapes Go.ChangeAt Go.RowKit
set_option linter.unusedVariables false
abbrev W64 (a : Int) : Prop := -9223372036854775808 ≤ a ∧ a ≤ 9223372036854775807
def stS (w : Int) : Int := if 0 ≤ pval w ∧ pval w ≤ 3 then pval w else -1
def tnW (w s : Int) : Int := sg (pmk ((pver w + 1) % 4294967296) s)
def tnB (s : Int) : Bool := decide (0 ≤ s ∧ s ≤ 3)
def tnV (w s : Int) : Int := if tnB s = true then tnW w s else 0
def bdB (v n : Int) : Bool := decide (0 ≤ v ∧ v ≤ 11 ∧ 1 ≤ n ∧ n ≤ 1048576)
def bdV (v n : Int) : Int := if bdB v n = true then v * 2097152 + n else 0
def ofB (w : Int) : Bool := decide (0 ≤ w ∧ w / 2097152 ≤ 11 ∧ 1 ≤ w % 2097152 ∧ w % 2097152 ≤ 1048576)
def ofV (w : Int) : Int := if ofB w = true then w / 2097152 else 0
def ofN (w : Int) : Int := if ofB w = true then w % 2097152 else 0
def hdB (t : Int) : Bool := decide (0 ≤ t ∧ t ≤ 15)
def hdV (t w : Int) : Int := if hdB t = true then pver w * 16 + t else 0
def nmB (h k : Int) : Bool := decide (0 ≤ h ∧ h % 16 < k ∧ h / 16 ≤ 4294967295)
def nmT (h k : Int) : Int := if nmB h k = true then h % 16 else 0
def nmV (h k : Int) : Int := if nmB h k = true then h / 16 else 0
theorem stS_bd (w : Int) : -1 ≤ stS w ∧ stS w ≤ 3 := by unfold stS; split <;> omega
theorem sg_bd' (n : Int) : W64 (sg n) := by unfold sg wrap64 W64; omega
theorem tnW_bd (w s : Int) : W64 (tnW w s) := sg_bd' _
theorem tnV_bd (w s : Int) : W64 (tnV w s) := by unfold tnV; split; exact tnW_bd w s; exact ⟨by decide, by decide⟩
theorem bdV_bd (v n : Int) : 0 ≤ bdV v n ∧ bdV v n ≤ 100000000 := by
  unfold bdV bdB; split
  · rename_i h; have := of_decide_eq_true h; omega
  · omega
theorem hdV_bd (t w : Int) : 0 ≤ hdV t w ∧ hdV t w ≤ 68719476735 := by
  have := pver_bd w
  unfold hdV hdB; split
  · rename_i h; have := of_decide_eq_true h; omega
  · omega
theorem pver_sg (a b : Int) (h0 : 0 ≤ a) (h1 : a ≤ 4294967295) : pver (sg (pmk a b)) = a := by unfold pver sg pmk wrap64; omega
theorem pval_sg (a b : Int) (h0 : 0 ≤ a) (h1 : a ≤ 4294967295) (h2 : -2147483648 ≤ b) (h3 : b ≤ 2147483647) : pval (sg (pmk a b)) = b := by unfold pval sg pmk wrap64 wrap32; omega
theorem stS_sg (a b : Int) (h0 : 0 ≤ a) (h1 : a ≤ 4294967295) (h2 : -2147483648 ≤ b) (h3 : b ≤ 2147483647) : stS (sg (pmk a b)) = if 0 ≤ b ∧ b ≤ 3 then b else -1 := by unfold stS; rw [pval_sg a b h0 h1 h2 h3]
theorem tn_st (w s : Int) (h0 : 0 ≤ s) (h1 : s ≤ 3) : stS (tnW w s) = s := by
  unfold tnW; rw [stS_sg _ _ (by omega) (by omega) (by omega) (by omega), if_pos ⟨h0, h1⟩]
theorem tn_ver (w s : Int) : pver (tnW w s) = (pver w + 1) % 4294967296 := pver_sg _ _ (by omega) (by omega)
theorem tn_ver_ne (w s : Int) : pver (tnW w s) ≠ pver w := by rw [tn_ver]; have := pver_bd w; omega
theorem tn_ne (w s : Int) : tnW w s ≠ w := fun e => tn_ver_ne w s (by rw [e])
theorem bd_of (v n : Int) (h : bdB v n = true) : ofB (bdV v n) = true ∧ ofV (bdV v n) = v ∧ ofN (bdV v n) = n := by
  have hb : bdV v n = v * 2097152 + n := if_pos h
  have hh := of_decide_eq_true h
  have e : ofB (bdV v n) = true := by rw [hb]; exact decide_eq_true (by omega)
  refine ⟨e, ?_, ?_⟩
  · unfold ofV; rw [if_pos e, hb]; omega
  · unfold ofN; rw [if_pos e, hb]; omega
theorem of_bd (w : Int) (h : ofB w = true) : bdB (ofV w) (ofN w) = true ∧ bdV (ofV w) (ofN w) = w := by
  have hh := of_decide_eq_true h
  have e1 : ofV w = w / 2097152 := if_pos h
  have e2 : ofN w = w % 2097152 := if_pos h
  have e : bdB (ofV w) (ofN w) = true := by rw [e1, e2]; exact decide_eq_true (by omega)
  refine ⟨e, ?_⟩
  unfold bdV; rw [if_pos e, e1, e2]; omega
theorem hd_nm (t w : Int) (h : hdB t = true) : nmB (hdV t w) 16 = true ∧ nmT (hdV t w) 16 = t ∧ nmV (hdV t w) 16 = pver w := by
  have hb : hdV t w = pver w * 16 + t := if_pos h
  have hh := of_decide_eq_true h
  have hv := pver_bd w
  have e : nmB (hdV t w) 16 = true := by rw [hb]; exact decide_eq_true (by omega)
  refine ⟨e, ?_, ?_⟩
  · unfold nmT; rw [if_pos e, hb]; omega
  · unfold nmV; rw [if_pos e, hb]; omega
theorem nm_hd (h k : Int) (hk : k ≤ 16) (hh : nmB h k = true) : 0 ≤ nmV h k ∧ nmV h k ≤ 4294967295 ∧ 0 ≤ nmT h k ∧ nmT h k < k ∧ hdB (nmT h k) = true ∧ hdV (nmT h k) (sg (pmk (nmV h k) 0)) = h := by
  have q := of_decide_eq_true hh
  have e1 : nmT h k = h % 16 := if_pos hh
  have e2 : nmV h k = h / 16 := if_pos hh
  have e : hdB (nmT h k) = true := by rw [e1]; exact decide_eq_true (by omega)
  refine ⟨by rw [e2]; omega, by rw [e2]; omega, by rw [e1]; omega, by rw [e1]; omega, e, ?_⟩
  unfold hdV; rw [if_pos e, pver_sg _ _ (by rw [e2]; omega) (by rw [e2]; omega), e1, e2]; omega
end Go.Proofs.Ytljimbkafijnnaa
