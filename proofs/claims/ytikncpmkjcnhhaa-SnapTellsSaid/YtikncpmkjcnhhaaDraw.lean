import Derived.Test.YtikncpmkjcnhhaaRows
import Derived.Test.YtikncpmkjcnhhaaDrawMath
import Derived.Test.YtikncpmkjcnhhaaRet
import Derived.WalkKit
import Derived.ProofKit
import Derived.OpenShut
import Derived.Lib.Hide
import Derived.Laws.EntriesVeiled
namespace Go.Proofs.Ytikncpmkjcnhhaa
open Go.ChangeShapes Go.WideShapes Go.ChangeAt Go.RowKit
set_option linter.unusedVariables false
theorem drawn_yes (a : Int) (h0 : 1 ≤ a) (h1 : a ≤ 4294967295) (w : World) :
    Calls Try.prog 99 #[.int .i64 a] w fun e w' => e = .returned (.int .u32 a) ∧ w = w' := by
  go_enter Try.func99, Try.ntmps99
  go_wp2
  go_ret
  exact ⟨rfl, rfl⟩
theorem drawn_no (a : Int) (h : ¬ (1 ≤ a ∧ a ≤ 4294967295)) (l0 : -9223372036854775808 ≤ a) (l1 : a ≤ 9223372036854775807) (w : World) :
    Calls Try.prog 99 #[.int .i64 a] w fun e w' => e = .returned (.int .u32 1) ∧ w = w' := by
  by_cases hz : a % 4294967296 = 0
  · have F : (a % 4294967296 == 0) = true := by rw [hz]; rfl
    clear h hz
    go_enter Try.func99, Try.ntmps99
    go_wp2
    go_ret
    exact ⟨rfl, rfl⟩
  · have F : (a % 4294967296 == 0) = false := by simp [hz]
    have F2 : (a % 4294967296 != a) = true := by rw [bne_iff_ne]; omega
    clear h hz
    go_enter Try.func99, Try.ntmps99
    go_wp2
    go_ret
    exact ⟨rfl, rfl⟩
theorem up_any (s : Int) (w : World) :
    Calls Try.prog 101 #[.int .u64 s] w fun e w' => e = .returned (.func (Fn.func 103) #[] #[.pointer (some ⟨w.heap.size, 0, none⟩)]) ∧ w' = w.alloc (.cells #[.int .u64 s] 107) := by
  go_enter Try.func101, Try.ntmps101
  go_wp2
  go_ret
  exact ⟨rfl, rfl⟩
theorem down_any (s : Int) (w : World) :
    Calls Try.prog 102 #[.int .u64 s] w fun e w' => e = .returned (.func (Fn.func 104) #[] #[.pointer (some ⟨w.heap.size, 0, none⟩)]) ∧ w' = w.alloc (.cells #[.int .u64 s] 107) := by
  go_enter Try.func102, Try.ntmps102
  go_wp2
  go_ret
  exact ⟨rfl, rfl⟩
theorem up13_any (a : Int) (b : Nat) (h0 : 0 ≤ a) (h1 : a ≤ 4294967295) (w : World) (hc : w.cell? ⟨b, 0, none⟩ = some (.int .u64 13)) :
    Calls Try.prog 103 #[.int .u32 a, .pointer (some ⟨b, 0, none⟩)] w fun e w' => e = .returned (.int .u32 (s13 a)) ∧ w = w' := by
  go_enter Try.func103, Try.ntmps103
  go_wp2
  go_ret
  exact ⟨rfl, rfl⟩
theorem up5_any (a : Int) (b : Nat) (h0 : 0 ≤ a) (h1 : a ≤ 4294967295) (w : World) (hc : w.cell? ⟨b, 0, none⟩ = some (.int .u64 5)) :
    Calls Try.prog 103 #[.int .u32 a, .pointer (some ⟨b, 0, none⟩)] w fun e w' => e = .returned (.int .u32 (s5 a)) ∧ w = w' := by
  go_enter Try.func103, Try.ntmps103
  go_wp2
  go_ret
  exact ⟨rfl, rfl⟩
theorem down17_any (a : Int) (b : Nat) (h0 : 0 ≤ a) (h1 : a ≤ 4294967295) (w : World) (hc : w.cell? ⟨b, 0, none⟩ = some (.int .u64 17)) :
    Calls Try.prog 104 #[.int .u32 a, .pointer (some ⟨b, 0, none⟩)] w fun e w' => e = .returned (.int .u32 (s17 a)) ∧ w = w' := by
  go_enter Try.func104, Try.ntmps104
  go_wp2
  go_ret
  exact ⟨rfl, rfl⟩
/-- What the row of shifts leaves: three cells, each with the number that its shift is by, behind all that was there. -/
def Sft (w w' : World) : Prop := Below w.heap.size w w' ∧ w'.cell? ⟨w.heap.size + 1, 0, none⟩ = some (.int .u64 13) ∧ w'.cell? ⟨w.heap.size + 2, 0, none⟩ = some (.int .u64 17) ∧ w'.cell? ⟨w.heap.size + 3, 0, none⟩ = some (.int .u64 5)
def sftV (n : Nat) : Value := .agg #[.func (Fn.func 103) #[] #[.pointer (some ⟨n + 1, 0, none⟩)], .func (Fn.func 104) #[] #[.pointer (some ⟨n + 2, 0, none⟩)], .func (Fn.func 103) #[] #[.pointer (some ⟨n + 3, 0, none⟩)]]
theorem shifts_any (w : World) :
    Calls Try.prog 100 #[] w fun e w' => e = .returned (sftV w.heap.size) ∧ Sft w w' := by
  go_enter Try.func100, Try.ntmps100
  go_wp2_with fail
  refine (up_any _ _).mono ?_
  rintro e w' ⟨rfl, rfl⟩
  go_wp2_with fail
  refine (down_any _ _).mono ?_
  rintro e w' ⟨rfl, rfl⟩
  go_wp2_with fail
  refine (up_any _ _).mono ?_
  rintro e w' ⟨rfl, rfl⟩
  go_wp2_with fail
  refine bodyPost_ret (v := sftV w.heap.size) (by simp [results, Try.results100, go_sem, sftV]) rfl ⟨rfl, ?_, ?_, ?_, ?_⟩
  · exact ((((Below.refl _ _).alloc (Nat.le_refl _) _).alloc (by simp) _).alloc (by simp; omega) _).alloc (by simp; omega) _
  · simp [go_sem]
  · simp [go_sem]
  · simp [go_sem]
theorem sft_ix0 (n : Nat) (w : World) : (Instr.index 141 (.agg #[.func (Fn.func 103) #[] #[.pointer (some ⟨n + 1, 0, none⟩)], .func (Fn.func 104) #[] #[.pointer (some ⟨n + 2, 0, none⟩)], .func (Fn.func 103) #[] #[.pointer (some ⟨n + 3, 0, none⟩)]]) (.int .i64 0)).run Try.prog w = .ok (.func (Fn.func 103) #[] #[.pointer (some ⟨n + 1, 0, none⟩)]) w := by kernel_rfl
theorem sft_ix1 (n : Nat) (w : World) : (Instr.index 141 (.agg #[.func (Fn.func 103) #[] #[.pointer (some ⟨n + 1, 0, none⟩)], .func (Fn.func 104) #[] #[.pointer (some ⟨n + 2, 0, none⟩)], .func (Fn.func 103) #[] #[.pointer (some ⟨n + 3, 0, none⟩)]]) (.int .i64 1)).run Try.prog w = .ok (.func (Fn.func 104) #[] #[.pointer (some ⟨n + 2, 0, none⟩)]) w := by kernel_rfl
theorem sft_ix2 (n : Nat) (w : World) : (Instr.index 141 (.agg #[.func (Fn.func 103) #[] #[.pointer (some ⟨n + 1, 0, none⟩)], .func (Fn.func 104) #[] #[.pointer (some ⟨n + 2, 0, none⟩)], .func (Fn.func 103) #[] #[.pointer (some ⟨n + 3, 0, none⟩)]]) (.int .i64 2)).run Try.prog w = .ok (.func (Fn.func 103) #[] #[.pointer (some ⟨n + 3, 0, none⟩)]) w := by kernel_rfl
theorem next_of (x a : Int) (h0 : 0 ≤ a) (h1 : a ≤ 4294967295) (hd : ∀ w, Calls Try.prog 99 #[.int .i64 x] w fun e w' => e = .returned (.int .u32 a) ∧ w = w') (w : World) :
    Calls Try.prog 92 #[.int .i64 x] w fun e w' => e = .returned (.int .i64 (nx a)) ∧ Below w.heap.size w w' := by
  have b1 := s13_bd a h0 h1
  have b2 := s17_bd _ b1.1 b1.2
  have b3 := s5_bd _ b2.1 b2.2
  have x0 := sft_ix0 w.heap.size
  have x1 := sft_ix1 w.heap.size
  have x2 := sft_ix2 w.heap.size
  have HD := Lib.hid hd
  clear hd
  go_enter Try.func92, Try.ntmps92
  go_wp2_with fail
  refine (HD.out _).mono ?_
  rintro e w' ⟨rfl, rfl⟩
  go_wp2_with fail
  refine (shifts_any _).mono ?_
  rintro e w' ⟨rfl, hb, c1, c2, c3⟩
  unfold sftV
  have Hb := Lib.hid hb
  clear hb
  go_wp2_with fail
  refine wp_loop_rounds 4 ?_
  rw [rounds_succ]
  go_wp2_with fail
  refine (up13_any _ _ h0 h1 _ c1).mono ?_
  rintro e w' ⟨rfl, rfl⟩
  go_wp2_with fail
  rw [rounds_succ]
  go_wp2_with fail
  refine (down17_any _ _ b1.1 b1.2 _ c2).mono ?_
  rintro e w' ⟨rfl, rfl⟩
  go_wp2_with fail
  rw [rounds_succ]
  go_wp2_with fail
  refine (up5_any _ _ b2.1 b2.2 _ c3).mono ?_
  rintro e w' ⟨rfl, rfl⟩
  go_wp2_with fail
  rw [rounds_succ]
  go_wp2_with fail
  go_ret
  exact ⟨rfl, Hb.out⟩
theorem dr_yes (x : Int) (h : 1 ≤ x ∧ x ≤ 4294967295) : dr x = x := if_pos h
theorem dr_no (x : Int) (h : ¬ (1 ≤ x ∧ x ≤ 4294967295)) : dr x = 1 := if_neg h
theorem dr_bd (x : Int) : 1 ≤ dr x ∧ dr x ≤ 4294967295 := by
  by_cases h : 1 ≤ x ∧ x ≤ 4294967295
  · rw [dr_yes x h]; exact h
  · rw [dr_no x h]; omega
theorem Next_any (x : Int) (l0 : -9223372036854775808 ≤ x) (l1 : x ≤ 9223372036854775807) (w : World) :
    Calls Try.prog 92 #[.int .i64 x] w fun e w' => e = .returned (.int .i64 (nx (dr x))) ∧ Below w.heap.size w w' := by
  by_cases h : 1 ≤ x ∧ x ≤ 4294967295
  · rw [dr_yes x h]
    exact next_of x x (by omega) h.2 (drawn_yes x h.1 h.2) w
  · rw [dr_no x h]
    exact next_of x 1 (by omega) (by omega) (drawn_no x h l0 l1) w
def bg (t : Int) : Int := (t + 1) * 2654435761 % 4294967296
theorem bg_all : ∀ t : Fin 1001, 1 ≤ bg (t.val : Int) ∧ bg (t.val : Int) ≤ 4294967295 ∧ bg (t.val : Int) * 244002641 % 4294967296 = (t.val : Int) + 1 := by decide +kernel
theorem bg_fin (t : Int) (h0 : 0 ≤ t) (h1 : t ≤ 1000) : 1 ≤ bg t ∧ bg t ≤ 4294967295 ∧ bg t * 244002641 % 4294967296 = t + 1 := by
  obtain ⟨n, rfl⟩ := Int.eq_ofNat_of_zero_le h0
  exact bg_all ⟨n, by omega⟩
theorem bg_bd (t : Int) (h0 : 0 ≤ t) (h1 : t ≤ 1000) : 1 ≤ bg t ∧ bg t ≤ 4294967295 := ⟨(bg_fin t h0 h1).1, (bg_fin t h0 h1).2.1⟩
theorem bg_inj (s t : Int) (h0 : 0 ≤ t) (h1 : t ≤ 1000) (k0 : 0 ≤ s) (k1 : s ≤ 1000) (h : bg s = bg t) : s = t := by
  have a := (bg_fin s k0 k1).2.2
  have b := (bg_fin t h0 h1).2.2
  rw [h, b] at a
  omega
theorem Begin_any (t : Int) (h0 : 0 ≤ t) (h1 : t ≤ 1000) (w : World) :
    Calls Try.prog 42 #[.int .i64 t] w fun e w' => e = .returned (.int .i64 (bg t)) ∧ w = w' := by
  go_enter Try.func42, Try.ntmps42
  go_wp2
  go_ret
  exact ⟨ret_int (by unfold bg; omega), rfl⟩
theorem Pick_any (x m : Int) (h0 : 0 ≤ x) (h1 : x ≤ 4294967295) (k0 : 1 ≤ m) (k1 : m ≤ 1048576) (w : World) :
    Calls Try.prog 60 #[.int .i64 x, .int .i64 m] w fun e w' => e = .returned (.int .i64 (x % m)) ∧ w = w' := by
  go_enter Try.func60, Try.ntmps60
  go_wp2
  go_ret
  exact ⟨rfl, rfl⟩
theorem nx_one : nx 1 = 270369 := by decide +kernel
end Go.Proofs.Ytikncpmkjcnhhaa
