/- Texts of elder layers, one behind the other: DrawMath, Draw, AddMath. -/
import Derived.Test.YtjohngpbggendaaGreatT14
import Derived.Laws.BitsAllLaws
import Derived.IntWalk
import Derived.Test.YtjohngpbggendaaGreatRows
import Derived.WalkKit
import Derived.ProofKit
import Derived.OpenShut
import Derived.Lib.Hide
import Derived.Laws.EntriesVeiled
section
namespace Go.Proofs.YtjohngpbggendaaGreat

/-- One step of the row: put together with itself shifted. -/
def s13 (a : Int) : Int := bits .xor .u32 a (a * 8192 % 4294967296)
def s17 (a : Int) : Int := bits .xor .u32 a (a / 131072)
def s5 (a : Int) : Int := bits .xor .u32 a (a * 32 % 4294967296)
/-- The next draw of a draw. -/
def nx (a : Int) : Int := s5 (s17 (s13 a))
/-- The draw that a number is taken for. -/
def dr (x : Int) : Int := if 1 ≤ x ∧ x ≤ 4294967295 then x else 1

def S13 (b : BitVec 32) : BitVec 32 := b ^^^ b <<< 13
def S17 (b : BitVec 32) : BitVec 32 := b ^^^ b >>> 17
def S5 (b : BitVec 32) : BitVec 32 := b ^^^ b <<< 5
def NX (b : BitVec 32) : BitVec 32 := S5 (S17 (S13 b))

theorem xor_self_eq (a b : BitVec 32) (h : a ^^^ b = 0#32) : a = b := by
  have : a ^^^ b ^^^ b = 0#32 ^^^ b := by rw [h]
  simpa [BitVec.xor_assoc] using this
theorem S13_zero (b : BitVec 32) (h : S13 b = 0#32) : b = 0#32 := by
  have h1 : b = b <<< 13 := xor_self_eq _ _ h
  rw [h1, h1, h1, ← BitVec.shiftLeft_add, ← BitVec.shiftLeft_add]
  exact BitVec.shiftLeft_eq_zero (by decide)
theorem S17_zero (b : BitVec 32) (h : S17 b = 0#32) : b = 0#32 := by
  have h1 : b = b >>> 17 := xor_self_eq _ _ h
  rw [h1, h1, ← BitVec.shiftRight_add]
  exact BitVec.ushiftRight_eq_zero (by decide)
theorem S5_zero (b : BitVec 32) (h : S5 b = 0#32) : b = 0#32 := by
  have h1 : b = b <<< 5 := xor_self_eq _ _ h
  rw [h1, h1, h1, h1, h1, h1, h1]
  simp only [← BitVec.shiftLeft_add]
  exact BitVec.shiftLeft_eq_zero (by decide)
theorem NX_zero (b : BitVec 32) (h : NX b = 0#32) : b = 0#32 := S13_zero _ (S17_zero _ (S5_zero _ h))
/-- A number of 32 bits, as bits. -/
def bv (a : Int) : BitVec 32 := BitVec.ofNat 32 a.toNat
def vb (b : BitVec 32) : Int := (b.toNat : Int)
theorem vb_bd (b : BitVec 32) : 0 ≤ vb b ∧ vb b ≤ 4294967295 := by unfold vb; have := b.isLt; omega
theorem bv_vb (b : BitVec 32) : bv (vb b) = b := by unfold bv vb; rw [Int.toNat_natCast, BitVec.ofNat_toNat, BitVec.setWidth_eq]
theorem vb_bv (a : Int) (h0 : 0 ≤ a) (h1 : a ≤ 4294967295) : vb (bv a) = a := by unfold bv vb; rw [BitVec.toNat_ofNat]; omega
theorem vb_xor (a b : BitVec 32) : bits .xor .u32 (vb a) (vb b) = vb (a ^^^ b) := by
  have ha := vb_bd a
  have hb := vb_bd b
  rw [u32_xor _ _ ha.1 (by omega) hb.1 (by omega)]
  unfold vb
  rw [Int.toNat_natCast, Int.toNat_natCast, BitVec.toNat_xor]
theorem vb_shl (b : BitVec 32) (k : Nat) : vb b * ((2 ^ k : Nat) : Int) % 4294967296 = vb (b <<< k) := by
  unfold vb
  rw [BitVec.toNat_shiftLeft, Nat.shiftLeft_eq, Int.natCast_emod, Int.natCast_mul]
  rfl
theorem vb_shr (b : BitVec 32) (k : Nat) : vb b / ((2 ^ k : Nat) : Int) = vb (b >>> k) := by
  unfold vb
  rw [BitVec.toNat_ushiftRight, Nat.shiftRight_eq_div_pow, Int.natCast_ediv]
theorem s13_vb (b : BitVec 32) : s13 (vb b) = vb (S13 b) := by
  unfold s13 S13
  rw [show (8192 : Int) = ((2 ^ 13 : Nat) : Int) from rfl, vb_shl, vb_xor]
theorem s17_vb (b : BitVec 32) : s17 (vb b) = vb (S17 b) := by
  unfold s17 S17
  rw [show (131072 : Int) = ((2 ^ 17 : Nat) : Int) from rfl, vb_shr, vb_xor]
theorem s5_vb (b : BitVec 32) : s5 (vb b) = vb (S5 b) := by
  unfold s5 S5
  rw [show (32 : Int) = ((2 ^ 5 : Nat) : Int) from rfl, vb_shl, vb_xor]
theorem nx_vb (b : BitVec 32) : nx (vb b) = vb (NX b) := by
  unfold nx NX
  rw [s13_vb, s17_vb, s5_vb]

theorem s13_bd (a : Int) (h0 : 0 ≤ a) (h1 : a ≤ 4294967295) : 0 ≤ s13 a ∧ s13 a ≤ 4294967295 := by
  rw [← vb_bv a h0 h1, s13_vb]; exact vb_bd _
theorem s17_bd (a : Int) (h0 : 0 ≤ a) (h1 : a ≤ 4294967295) : 0 ≤ s17 a ∧ s17 a ≤ 4294967295 := by
  rw [← vb_bv a h0 h1, s17_vb]; exact vb_bd _
theorem s5_bd (a : Int) (h0 : 0 ≤ a) (h1 : a ≤ 4294967295) : 0 ≤ s5 a ∧ s5 a ≤ 4294967295 := by
  rw [← vb_bv a h0 h1, s5_vb]; exact vb_bd _
theorem nx_bd (a : Int) (h0 : 1 ≤ a) (h1 : a ≤ 4294967295) : 1 ≤ nx a ∧ nx a ≤ 4294967295 := by
  rw [← vb_bv a (by omega) h1, nx_vb]
  have hb := vb_bd (NX (bv a))
  refine ⟨?_, hb.2⟩
  by_cases h : vb (NX (bv a)) = 0
  · have hz : NX (bv a) = 0#32 := by rw [← bv_vb (NX (bv a)), h]; rfl
    have ha := NX_zero _ hz
    have := vb_bv a (by omega) h1
    rw [ha] at this
    have h0' : vb 0#32 = 0 := rfl
    omega
  · omega
end Go.Proofs.YtjohngpbggendaaGreat
end
section
namespace Go.Proofs.YtjohngpbggendaaGreat
open Go.ChangeShapes Go.WideShapes Go.ChangeAt Go.RowKit
set_option linter.unusedVariables false
theorem drawn_yes (a : Int) (h0 : 1 ≤ a) (h1 : a ≤ 4294967295) (w : World) :
    Calls Tryz.prog 203 #[.int .i64 a] w fun e w' => e = .returned (.int .u32 a) ∧ w = w' := by
  go_enter Tryz.func203, Tryz.ntmps203
  go_wp2
  go_ret
  exact ⟨rfl, rfl⟩
theorem drawn_no (a : Int) (h : ¬ (1 ≤ a ∧ a ≤ 4294967295)) (l0 : -9223372036854775808 ≤ a) (l1 : a ≤ 9223372036854775807) (w : World) :
    Calls Tryz.prog 203 #[.int .i64 a] w fun e w' => e = .returned (.int .u32 1) ∧ w = w' := by
  by_cases hz : a % 4294967296 = 0
  · have F : (a % 4294967296 == 0) = true := by rw [hz]; rfl
    clear h hz
    go_enter Tryz.func203, Tryz.ntmps203
    go_wp2
    go_ret
    exact ⟨rfl, rfl⟩
  · have F : (a % 4294967296 == 0) = false := by simp [hz]
    have F2 : (a % 4294967296 != a) = true := by rw [bne_iff_ne]; omega
    clear h hz
    go_enter Tryz.func203, Tryz.ntmps203
    go_wp2
    go_ret
    exact ⟨rfl, rfl⟩
theorem up_any (s : Int) (w : World) :
    Calls Tryz.prog 205 #[.int .u64 s] w fun e w' => e = .returned (.func (Fn.func 207) #[] #[.pointer (some ⟨w.heap.size, 0, none⟩)]) ∧ w' = w.alloc (.cells #[.int .u64 s] 126) := by
  go_enter Tryz.func205, Tryz.ntmps205
  go_wp2
  go_ret
  exact ⟨rfl, rfl⟩
theorem down_any (s : Int) (w : World) :
    Calls Tryz.prog 206 #[.int .u64 s] w fun e w' => e = .returned (.func (Fn.func 208) #[] #[.pointer (some ⟨w.heap.size, 0, none⟩)]) ∧ w' = w.alloc (.cells #[.int .u64 s] 126) := by
  go_enter Tryz.func206, Tryz.ntmps206
  go_wp2
  go_ret
  exact ⟨rfl, rfl⟩
theorem up13_any (a : Int) (b : Nat) (h0 : 0 ≤ a) (h1 : a ≤ 4294967295) (w : World) (hc : w.cell? ⟨b, 0, none⟩ = some (.int .u64 13)) :
    Calls Tryz.prog 207 #[.int .u32 a, .pointer (some ⟨b, 0, none⟩)] w fun e w' => e = .returned (.int .u32 (s13 a)) ∧ w = w' := by
  go_enter Tryz.func207, Tryz.ntmps207
  go_wp2
  go_ret
  exact ⟨rfl, rfl⟩
theorem up5_any (a : Int) (b : Nat) (h0 : 0 ≤ a) (h1 : a ≤ 4294967295) (w : World) (hc : w.cell? ⟨b, 0, none⟩ = some (.int .u64 5)) :
    Calls Tryz.prog 207 #[.int .u32 a, .pointer (some ⟨b, 0, none⟩)] w fun e w' => e = .returned (.int .u32 (s5 a)) ∧ w = w' := by
  go_enter Tryz.func207, Tryz.ntmps207
  go_wp2
  go_ret
  exact ⟨rfl, rfl⟩
theorem down17_any (a : Int) (b : Nat) (h0 : 0 ≤ a) (h1 : a ≤ 4294967295) (w : World) (hc : w.cell? ⟨b, 0, none⟩ = some (.int .u64 17)) :
    Calls Tryz.prog 208 #[.int .u32 a, .pointer (some ⟨b, 0, none⟩)] w fun e w' => e = .returned (.int .u32 (s17 a)) ∧ w = w' := by
  go_enter Tryz.func208, Tryz.ntmps208
  go_wp2
  go_ret
  exact ⟨rfl, rfl⟩
/-- What the row of shifts leaves: three cells, each with the number that its shift is by, behind all that was there. -/
def Sft (w w' : World) : Prop := Below w.heap.size w w' ∧ w'.cell? ⟨w.heap.size + 1, 0, none⟩ = some (.int .u64 13) ∧ w'.cell? ⟨w.heap.size + 2, 0, none⟩ = some (.int .u64 17) ∧ w'.cell? ⟨w.heap.size + 3, 0, none⟩ = some (.int .u64 5)
def sftV (n : Nat) : Value := .agg #[.func (Fn.func 207) #[] #[.pointer (some ⟨n + 1, 0, none⟩)], .func (Fn.func 208) #[] #[.pointer (some ⟨n + 2, 0, none⟩)], .func (Fn.func 207) #[] #[.pointer (some ⟨n + 3, 0, none⟩)]]
theorem shifts_any (w : World) :
    Calls Tryz.prog 204 #[] w fun e w' => e = .returned (sftV w.heap.size) ∧ Sft w w' := by
  go_enter Tryz.func204, Tryz.ntmps204
  go_wp2_with fail
  refine (up_any _ _).mono ?_
  rintro e w' ⟨rfl, rfl⟩
  go_wp2_with fail
  refine (down_any _ _).mono ?_
  rintro e w' ⟨rfl, rfl⟩
  go_wp2_with fail
  refine (up_any _ _).mono ?_
  rintro e w' ⟨rfl, rfl⟩
  go_wp2_with fail
  refine bodyPost_ret (v := sftV w.heap.size) (by simp [results, Tryz.results204, go_sem, sftV]) rfl ⟨rfl, ?_, ?_, ?_, ?_⟩
  · exact ((((Below.refl _ _).alloc (Nat.le_refl _) _).alloc (by simp) _).alloc (by simp; omega) _).alloc (by simp; omega) _
  · simp [go_sem]
  · simp [go_sem]
  · simp [go_sem]
theorem sft_ix0 (n : Nat) (w : World) : (Instr.index 210 (.agg #[.func (Fn.func 207) #[] #[.pointer (some ⟨n + 1, 0, none⟩)], .func (Fn.func 208) #[] #[.pointer (some ⟨n + 2, 0, none⟩)], .func (Fn.func 207) #[] #[.pointer (some ⟨n + 3, 0, none⟩)]]) (.int .i64 0)).run Tryz.prog w = .ok (.func (Fn.func 207) #[] #[.pointer (some ⟨n + 1, 0, none⟩)]) w := by kernel_rfl
theorem sft_ix1 (n : Nat) (w : World) : (Instr.index 210 (.agg #[.func (Fn.func 207) #[] #[.pointer (some ⟨n + 1, 0, none⟩)], .func (Fn.func 208) #[] #[.pointer (some ⟨n + 2, 0, none⟩)], .func (Fn.func 207) #[] #[.pointer (some ⟨n + 3, 0, none⟩)]]) (.int .i64 1)).run Tryz.prog w = .ok (.func (Fn.func 208) #[] #[.pointer (some ⟨n + 2, 0, none⟩)]) w := by kernel_rfl
theorem sft_ix2 (n : Nat) (w : World) : (Instr.index 210 (.agg #[.func (Fn.func 207) #[] #[.pointer (some ⟨n + 1, 0, none⟩)], .func (Fn.func 208) #[] #[.pointer (some ⟨n + 2, 0, none⟩)], .func (Fn.func 207) #[] #[.pointer (some ⟨n + 3, 0, none⟩)]]) (.int .i64 2)).run Tryz.prog w = .ok (.func (Fn.func 207) #[] #[.pointer (some ⟨n + 3, 0, none⟩)]) w := by kernel_rfl
theorem next_of (x a : Int) (h0 : 0 ≤ a) (h1 : a ≤ 4294967295) (hd : ∀ w, Calls Tryz.prog 203 #[.int .i64 x] w fun e w' => e = .returned (.int .u32 a) ∧ w = w') (w : World) :
    Calls Tryz.prog 199 #[.int .i64 x] w fun e w' => e = .returned (.int .i64 (nx a)) ∧ Below w.heap.size w w' := by
  have b1 := s13_bd a h0 h1
  have b2 := s17_bd _ b1.1 b1.2
  have b3 := s5_bd _ b2.1 b2.2
  have x0 := sft_ix0 w.heap.size
  have x1 := sft_ix1 w.heap.size
  have x2 := sft_ix2 w.heap.size
  have HD := Lib.hid hd
  clear hd
  go_enter Tryz.func199, Tryz.ntmps199
  go_wp2_with fail
  refine (HD.out _).mono ?_
  rintro e w' ⟨rfl, rfl⟩
  go_wp2_with fail
  refine (shifts_any _).mono ?_
  rintro e w' ⟨rfl, hb, c1, c2, c3⟩
  unfold sftV
  have Hb := Lib.hid hb
  clear hb
  go_wp2_with fail
  refine wp_loop_rounds 4 ?_
  rw [rounds_succ]
  go_wp2_with fail
  refine (up13_any _ _ h0 h1 _ c1).mono ?_
  rintro e w' ⟨rfl, rfl⟩
  go_wp2_with fail
  rw [rounds_succ]
  go_wp2_with fail
  refine (down17_any _ _ b1.1 b1.2 _ c2).mono ?_
  rintro e w' ⟨rfl, rfl⟩
  go_wp2_with fail
  rw [rounds_succ]
  go_wp2_with fail
  refine (up5_any _ _ b2.1 b2.2 _ c3).mono ?_
  rintro e w' ⟨rfl, rfl⟩
  go_wp2_with fail
  rw [rounds_succ]
  go_wp2_with fail
  go_ret
  exact ⟨rfl, Hb.out⟩
theorem dr_yes (x : Int) (h : 1 ≤ x ∧ x ≤ 4294967295) : dr x = x := if_pos h
theorem dr_no (x : Int) (h : ¬ (1 ≤ x ∧ x ≤ 4294967295)) : dr x = 1 := if_neg h
theorem dr_bd (x : Int) : 1 ≤ dr x ∧ dr x ≤ 4294967295 := by
  by_cases h : 1 ≤ x ∧ x ≤ 4294967295
  · rw [dr_yes x h]; exact h
  · rw [dr_no x h]; omega
theorem Next_any (x : Int) (l0 : -9223372036854775808 ≤ x) (l1 : x ≤ 9223372036854775807) (w : World) :
    Calls Tryz.prog 199 #[.int .i64 x] w fun e w' => e = .returned (.int .i64 (nx (dr x))) ∧ Below w.heap.size w w' := by
  by_cases h : 1 ≤ x ∧ x ≤ 4294967295
  · rw [dr_yes x h]
    exact next_of x x (by omega) h.2 (drawn_yes x h.1 h.2) w
  · rw [dr_no x h]
    exact next_of x 1 (by omega) (by omega) (drawn_no x h l0 l1) w
def bg (t : Int) : Int := (t + 1) * 2654435761 % 4294967296
theorem bg_all : ∀ t : Fin 1001, 1 ≤ bg (t.val : Int) ∧ bg (t.val : Int) ≤ 4294967295 ∧ bg (t.val : Int) * 244002641 % 4294967296 = (t.val : Int) + 1 := by decide +kernel
theorem bg_fin (t : Int) (h0 : 0 ≤ t) (h1 : t ≤ 1000) : 1 ≤ bg t ∧ bg t ≤ 4294967295 ∧ bg t * 244002641 % 4294967296 = t + 1 := by
  obtain ⟨n, rfl⟩ := Int.eq_ofNat_of_zero_le h0
  exact bg_all ⟨n, by omega⟩
theorem bg_bd (t : Int) (h0 : 0 ≤ t) (h1 : t ≤ 1000) : 1 ≤ bg t ∧ bg t ≤ 4294967295 := ⟨(bg_fin t h0 h1).1, (bg_fin t h0 h1).2.1⟩
theorem Begin_any (t : Int) (h0 : 0 ≤ t) (h1 : t ≤ 1000) (w : World) :
    Calls Tryz.prog 165 #[.int .i64 t] w fun e w' => e = .returned (.int .i64 (bg t)) ∧ w = w' := by
  go_enter Tryz.func165, Tryz.ntmps165
  go_wp2
  go_ret
  exact ⟨ret_int (by unfold bg; omega), rfl⟩
theorem Pick_any (x m : Int) (h0 : 0 ≤ x) (h1 : x ≤ 4294967295) (k0 : 1 ≤ m) (k1 : m ≤ 1048576) (w : World) :
    Calls Tryz.prog 177 #[.int .i64 x, .int .i64 m] w fun e w' => e = .returned (.int .i64 (x % m)) ∧ w = w' := by
  go_enter Tryz.func177, Tryz.ntmps177
  go_wp2
  go_ret
  exact ⟨rfl, rfl⟩
theorem nx_one : nx 1 = 270369 := by decide +kernel
theorem rNext_any (x : Int) (l0 : -9223372036854775808 ≤ x) (l1 : x ≤ 9223372036854775807) (w : World) :
    Calls Tryz.prog 157 #[.int .i64 x] w fun e w' => e = .returned (.int .i64 (nx (dr x))) ∧ w = w' := by
  by_cases h : 1 ≤ x ∧ x ≤ 4294967295
  · rw [dr_yes x h]
    obtain ⟨h0, h1⟩ := h
    have h2 : x < 4294967296 := by omega
    have b1 := s13_bd x (by omega) h1
    have b2 := s17_bd _ b1.1 b1.2
    have b3 := s5_bd _ b2.1 b2.2
    unfold s5 s17 s13 at b3
    unfold s17 s13 at b2
    unfold s13 at b1
    go_enter Tryz.func157, Tryz.ntmps157
    go_wp2
    go_ret
    exact ⟨rfl, rfl⟩
  · rw [dr_no x h]
    have hc : x < 1 ∨ (1 ≤ x ∧ 4294967296 ≤ x) := by omega
    clear h
    have e1 : bits .xor .u32 1 8192 = 8193 := by decide +kernel
    have e2 : bits .xor .u32 8193 0 = 8193 := by decide +kernel
    have e3 : bits .xor .u32 8193 262176 = 270369 := by decide +kernel
    rw [nx_one]
    rcases hc with hc | ⟨hc, hd⟩
    all_goals
      go_enter Tryz.func157, Tryz.ntmps157
      go_wp2
      go_ret
      exact ⟨rfl, rfl⟩
theorem rBegin_any (t : Int) (h0 : 0 ≤ t) (h1 : t ≤ 1000) (w : World) :
    Calls Tryz.prog 172 #[.int .i64 t] w fun e w' => e = .returned (.int .i64 (bg t)) ∧ w = w' := by
  go_enter Tryz.func172, Tryz.ntmps172
  go_wp2
  go_ret
  exact ⟨rfl, rfl⟩
theorem rPick_any (x m : Int) (h0 : 0 ≤ x) (h1 : x ≤ 4294967295) (k0 : 1 ≤ m) (k1 : m ≤ 1048576) (w : World) :
    Calls Tryz.prog 155 #[.int .i64 x, .int .i64 m] w fun e w' => e = .returned (.int .i64 (x % m)) ∧ w = w' := by
  go_enter Tryz.func155, Tryz.ntmps155
  go_wp2
  go_ret
  exact ⟨rfl, rfl⟩
end Go.Proofs.YtjohngpbggendaaGreat
end
section
/- The adding machine of chapter 6 as a plain function of its state, of words and of a log. No program in it. -/
namespace Go.Proofs.YtjohngpbggendaaGreat
open Go.RowKit
set_option linter.unusedVariables false
/-- What is asked: the counter's first word, its stripes, the gate, the number. -/
structure AP where
  b : Nat
  S : Int
  g : Int
  d : Int
/-- Where a machine stands (9: its end), and what it knows. -/
structure AS where
  at_ : Nat
  x : Int
  l : Int
  i : Nat
  w : Int
  v : Int
def nxt (w v : Int) : Int := sg (pmk ((pver w + 1) % 4294967296) v)
def missA (p : AP) (s : AS) : AS := if s.l < p.S then ⟨8, s.x, s.l, s.i, s.w, s.v⟩ else ⟨0, nx (dr s.x), s.l, s.i, s.w, s.v⟩
def stepA (p : AP) (s : AS) (ws : List Int) (lg : List Acc) : AS × List Int × List Acc × Bool :=
  match s.at_ with
  | 0 => (⟨1, s.x, ws.getD (p.b + 3) 0, (s.x % ws.getD (p.b + 3) 0).toNat, s.w, s.v⟩, ws, lg ++ [⟨1, (p.b : Int) + 3, ws.getD (p.b + 3) 0, 0, false⟩], false)
  | 1 => (⟨if -p.g < pval (ws.getD (p.b + 4 + s.i) 0) + p.d ∧ pval (ws.getD (p.b + 4 + s.i) 0) + p.d < p.g then 2 else 3, s.x, s.l, s.i, ws.getD (p.b + 4 + s.i) 0, pval (ws.getD (p.b + 4 + s.i) 0) + p.d⟩, ws, lg ++ [⟨1, (p.b : Int) + 4 + s.i, ws.getD (p.b + 4 + s.i) 0, 0, false⟩], false)
  | 2 => if ws.getD (p.b + 4 + s.i) 0 = s.w then (⟨9, s.x, s.l, s.i, s.w, s.v⟩, ws.set (p.b + 4 + s.i) (nxt s.w s.v), lg ++ [⟨3, (p.b : Int) + 4 + s.i, s.w, nxt s.w s.v, true⟩], true)
      else (missA p s, ws, lg ++ [⟨3, (p.b : Int) + 4 + s.i, s.w, nxt s.w s.v, false⟩], false)
  | 3 => (⟨4, s.x, s.l, s.i, s.w, s.v⟩, ws.set (p.b + 1) (wrap64 (ws.getD (p.b + 1) 0 + 1)), lg ++ [⟨2, (p.b : Int) + 1, 1, wrap64 (ws.getD (p.b + 1) 0 + 1), false⟩], false)
  | 4 => if ws.getD (p.b + 4 + s.i) 0 = s.w then (⟨5, s.x, s.l, s.i, s.w, s.v⟩, ws.set (p.b + 4 + s.i) (nxt s.w 0), lg ++ [⟨3, (p.b : Int) + 4 + s.i, s.w, nxt s.w 0, true⟩], false)
      else (⟨7, s.x, s.l, s.i, s.w, s.v⟩, ws, lg ++ [⟨3, (p.b : Int) + 4 + s.i, s.w, nxt s.w 0, false⟩], false)
  | 5 => (⟨6, s.x, s.l, s.i, s.w, s.v⟩, ws.set p.b (wrap64 (ws.getD p.b 0 + s.v)), lg ++ [⟨2, (p.b : Int), s.v, wrap64 (ws.getD p.b 0 + s.v), false⟩], false)
  | 6 => (⟨9, s.x, s.l, s.i, s.w, s.v⟩, ws.set (p.b + 2) (wrap64 (ws.getD (p.b + 2) 0 + 1)), lg ++ [⟨2, (p.b : Int) + 2, 1, wrap64 (ws.getD (p.b + 2) 0 + 1), false⟩], true)
  | 7 => (missA p s, ws.set (p.b + 2) (wrap64 (ws.getD (p.b + 2) 0 + 1)), lg ++ [⟨2, (p.b : Int) + 2, 1, wrap64 (ws.getD (p.b + 2) 0 + 1), false⟩], false)
  | 8 => (⟨0, nx (dr s.x), s.l, s.i, s.w, s.v⟩, if ws.getD (p.b + 3) 0 = s.l then ws.set (p.b + 3) (2 * s.l) else ws, lg ++ [⟨3, (p.b : Int) + 3, s.l, 2 * s.l, ws.getD (p.b + 3) 0 == s.l⟩], false)
  | _ => (s, ws, lg, true)
/-- A power of two up to 8. -/
def Pow8 (a : Int) : Prop := a = 1 ∨ a = 2 ∨ a = 4 ∨ a = 8
/-- What is asked may be asked. -/
structure AP.Ok (p : AP) : Prop where
  b : p.b ≤ 1000
  S : Pow8 p.S
  g0 : 1 ≤ p.g
  g1 : p.g ≤ 1048576
  d0 : -1048576 ≤ p.d
  d1 : p.d ≤ 1048576
/-- Words as chapter 6 has them: live, and the stripes within the gate. -/
structure WOk (p : AP) (ws : List Int) : Prop where
  len : p.b + 4 + p.S.toNat ≤ ws.length
  most : ws.length ≤ 1020
  wf : ∀ k, I64 (ws.getD k 0)
  live : Pow8 (ws.getD (p.b + 3) 0)
  live2 : ws.getD (p.b + 3) 0 ≤ p.S
  gate : ∀ k : Nat, (k : Int) < p.S → -p.g < pval (ws.getD (p.b + 4 + k) 0) ∧ pval (ws.getD (p.b + 4 + k) 0) < p.g
/-- What a machine knows may be. -/
structure SOk (p : AP) (s : AS) : Prop where
  at_ : s.at_ ≤ 9
  x0 : 1 ≤ s.x
  x1 : s.x ≤ 4294967295
  l : s.at_ ≠ 0 → s.at_ ≠ 9 → Pow8 s.l ∧ s.l ≤ p.S
  l8 : s.at_ = 8 → s.l < p.S
  lI : I64 s.l
  i : s.at_ ≠ 0 → s.at_ ≠ 9 → (s.i : Int) < p.S
  iI : s.i < 8
  w : I64 s.w
  wg : 2 ≤ s.at_ → s.at_ ≤ 7 → -p.g < pval s.w ∧ pval s.w < p.g ∧ s.v = pval s.w + p.d
  v2 : s.at_ = 2 → -p.g < s.v ∧ s.v < p.g
  vI : I64 s.v
theorem wrap64_I (a : Int) : I64 (wrap64 a) := by unfold I64 wrap64; omega
theorem sg_I (a : Int) : I64 (sg a) := wrap64_I a
theorem pval_nxt (w v : Int) (h0 : -2147483648 ≤ v) (h1 : v ≤ 2147483647) : pval (nxt w v) = v := by
  unfold nxt sg pmk pval wrap32 wrap64; omega
theorem nxt_I (w v : Int) : I64 (nxt w v) := sg_I _
end Go.Proofs.YtjohngpbggendaaGreat
end
