/- Texts of elder layers, one behind the other: Slot. -/
import Derived.Test.YtdglnpfnjinbkaaGreatC1
import Derived.OwnWalk
import Derived.Laws.Shifts
import Derived.Lib.QuietBelow
import Derived.BigQuiet
namespace Go.Proofs.YtdglnpfnjinbkaaGreat
open Go.ChangeShapes Go.WideShapes Go.ChangeAt Go.RowKit
open Lib (hid)
set_option linter.unusedVariables false
set_option linter.unusedSimpArgs false
set_option maxRecDepth 100000
set_option maxHeartbeats 4000000
section
theorem and_low (k : Nat) (n m : Int) (hm : (BitVec.ofInt 64 m).toNat = 2 ^ k - 1) (hk : 2 ^ k <= 9223372036854775808) : bits .and .i64 n m = ((n % 18446744073709551616).toNat % 2 ^ k : Nat) := by
 have key : (BitVec.ofInt 64 n &&& BitVec.ofInt 64 m).toNat = (n % ((2 ^ 64 : Nat) : Int)).toNat % 2 ^ k := by
  rw [BitVec.toNat_and, BitVec.toNat_ofInt, hm, Nat.and_two_pow_sub_one_eq_mod]
 show IntKind.i64.wrap ((BitVec.ofInt 64 n &&& BitVec.ofInt 64 m).toNat : Nat) = _
 rw [key, IntKind.wrap_i64]
 have h1 : (n % 18446744073709551616).toNat % 2 ^ k < 2 ^ k := Nat.mod_lt _ (Nat.two_pow_pos k)
 have e : ((2 ^ 64 : Nat) : Int) = 18446744073709551616 := by decide
 rw [e]
 omega
theorem and15 (n : Int) : bits .and .i64 n 15 = n % 16 := by
 rw [and_low 4 n 15 (by decide) (by decide)]; omega
theorem and21 (n : Int) : bits .and .i64 n 2097151 = n % 2097152 := by
 rw [and_low 21 n 2097151 (by decide) (by decide)]; omega
theorem zVq (s : Int) (w : World) : Calls Tryz.prog 217 #[.int .i64 s] w fun e w' => e = .returned (.bool (tnB s)) /\ w = w' := by
 by_cases h : 0 <= s /\ s <= 3
 ·rw [show tnB s = true from decide_eq_true h]
  obtain ⟨h0, h1⟩ := h
  go_enter Tryz.func217, Tryz.ntmps217
  go_wp2_with fail
  go_ret
  exact ⟨rfl, rfl⟩
 ·rw [show tnB s = false from decide_eq_false h]
  have hc : s < 0 ∨ (0 <= s /\ 3 < s) := by omega
  clear h
  rcases hc with hc | ⟨hc, hd⟩
  all_goals
   go_enter Tryz.func217, Tryz.ntmps217
   go_wp2_with fail
   go_ret
   first | exact ⟨rfl, rfl⟩ | exact ⟨congrArg (fun b => Ending.returned (.bool b)) (decide_eq_false (by omega)), rfl⟩
theorem mayBe_any (v n : Int) (w : World) : Calls Tryz.prog 230 #[.int .i64 v, .int .i64 n] w fun e w' => e = .returned (.bool (bdB v n)) /\ w = w' := by
 by_cases h : 0 <= v /\ v <= 11 /\ 1 <= n /\ n <= 1048576
 ·rw [show bdB v n = true from decide_eq_true h]
  obtain ⟨h0, h1, h2, h3⟩ := h
  have g1 : v < 12 := by omega
  go_enter Tryz.func230, Tryz.ntmps230
  go_wp2_with fail
  go_ret
  exact ⟨rfl, rfl⟩
 ·rw [show bdB v n = false from decide_eq_false h]
  have hc : v < 0 ∨ (0 <= v /\ 12 <= v) ∨ (0 <= v /\ v < 12 /\ n < 1) ∨ (0 <= v /\ v < 12 /\ 1 <= n /\ 1048576 < n) := by omega
  clear h
  rcases hc with hc | ⟨hc, hd⟩ | ⟨hc, hd, he⟩ | ⟨hc, hd, he, hf⟩
  all_goals
   go_enter Tryz.func230, Tryz.ntmps230
   go_wp2_with fail
   go_ret
   first | exact ⟨rfl, rfl⟩ | exact ⟨congrArg (fun b => Ending.returned (.bool b)) (decide_eq_false (by omega)), rfl⟩
theorem split21 (a : Int) (w : World) : Calls Tryz.prog 165 #[.int .i64 a, .int .i64 21] w fun e w' => e = .returned (.tuple #[.int .i64 (a / 2097152), .int .i64 (a % 2097152)]) /\ w' = w.drew := by
 have H := hid (and21 a)
 go_enter Tryz.func165, Tryz.ntmps165
 go_wp2_with fail
 go_region
 go_wp2_with fail
 go_ret2
 exact ⟨congrArg (fun n => Ending.returned (.tuple #[.int .i64 (a / 2097152), .int .i64 n])) H.out, rfl⟩
theorem split4 (a : Int) (w : World) : Calls Tryz.prog 165 #[.int .i64 a, .int .i64 4] w fun e w' => e = .returned (.tuple #[.int .i64 (a / 16), .int .i64 (a % 16)]) /\ w' = w.drew := by
 have H := hid (and15 a)
 go_enter Tryz.func165, Tryz.ntmps165
 go_wp2_with fail
 go_region
 go_wp2_with fail
 go_ret2
 exact ⟨congrArg (fun n => Ending.returned (.tuple #[.int .i64 (a / 16), .int .i64 n])) H.out, rfl⟩
def hnd (t v : Int) : Value := .agg #[.int .i64 t, .int .i64 v]
theorem zTz (a : Int) (w : World) : Calls Tryz.prog 127 #[.int .i64 a] w fun e w' => e = .returned (hnd (a % 16) (a / 16)) /\ Below w.heap.size w w' := by
 have H := hid (split4 a)
 go_enter Tryz.func127, Tryz.ntmps127
 go_wp2_with fail
 refine (H.out _).mono ?_
 rintro e w' ⟨rfl, rfl⟩
 go_wp2_with fail
 refine bodyPost_ret (v := hnd (a % 16) (a / 16)) (by simp [results, Tryz.results127, go_sem, hnd]; try rfl) rfl ⟨rfl, ?_⟩
 exact ((Below.refl _ _).alloc (Nat.le_refl _) _).drew
theorem number_any (t v : Int) (lt : W64 t) (h0 : 0 <= v) (h1 : v <= 4294967295) (w : World) : Calls Tryz.prog 207 #[hnd t v] w fun e w' => e = .returned (.int .i64 (wrap64 (v * 16 + t))) /\ Below w.heap.size w w' := by
 unfold hnd
 go_enter Tryz.func207, Tryz.ntmps207
 go_wp2_with fail
 go_ret
 exact ⟨rfl, (Below.refl _ _).alloc (Nat.le_refl _) _⟩
theorem zQm (n : Int) (ln : W64 n) (w : World) : Calls Tryz.prog 128 #[.int .i64 n] w fun e w' => e = .returned (.bool (decide (0 <= n /\ n <= 4294967295))) /\ w = w' := by
 by_cases h : 0 <= n /\ n <= 4294967295
 ·have H := hid (word_yes n 0 h.1 h.2 (by decide) (by decide))
  rw [decide_eq_true h]
  clear h ln
  go_enter Tryz.func128, Tryz.ntmps128
  go_wp2_with fail
  refine (H.out _).mono ?_
  rintro e w' ⟨rfl, rfl⟩
  go_wp2_with fail
  go_ret
  exact ⟨rfl, rfl⟩
 ·have H := hid (word_no n 0 (fun x => h ⟨x.1, x.2.1⟩) ln.1 ln.2 (by decide) (by decide))
  rw [decide_eq_false h]
  clear h ln
  go_enter Tryz.func128, Tryz.ntmps128
  go_wp2_with fail
  refine (H.out _).mono ?_
  rintro e w' ⟨rfl, rfl⟩
  go_wp2_with fail
  go_ret
  exact ⟨rfl, rfl⟩
theorem zXr (a : Int) (la : W64 a) (w : World) :
 Calls Tryz.prog 170 #[.int .i64 a] w fun e w' => e = .returned (.int .i64 (stS a)) /\ Below w.heap.size w w' := by
 by_cases h : 0 <= pval a /\ pval a <= 3
 ·have hI := zVq (pval a)
  rw [show tnB (pval a) = true from decide_eq_true h] at hI
  have HI := hid hI
  rw [show stS a = pval a from if_pos h]
  clear hI
  obtain ⟨h0, h1⟩ := h
  go_enter Tryz.func170, Tryz.ntmps170
  go_wp2_with fail
  refine (zUi a la.1 la.2 _).mono ?_
  rintro e w' ⟨rfl, rfl⟩
  go_wp2_with fail
  refine (HI.out _).mono ?_
  rintro e w' ⟨rfl, rfl⟩
  go_wp2_with fail
  go_ret
  exact ⟨rfl, Below.refl _ _⟩
 ·have hI := zVq (pval a)
  rw [show tnB (pval a) = false from decide_eq_false h] at hI
  have HI := hid hI
  rw [show stS a = -1 from if_neg h]
  clear hI h
  go_enter Tryz.func170, Tryz.ntmps170
  go_wp2_with fail
  refine (zUi a la.1 la.2 _).mono ?_
  rintro e w' ⟨rfl, rfl⟩
  go_wp2_with fail
  refine (HI.out _).mono ?_
  rintro e w' ⟨rfl, rfl⟩
  go_wp2_with fail
  go_ret
  exact ⟨rfl, Below.refl _ _⟩
theorem zV1 (a s : Int) (la : W64 a) (ls : W64 s) (w : World) :
 Calls Tryz.prog 208 #[.int .i64 a, .int .i64 s] w fun e w' => e = .returned (.tuple #[.int .i64 (tnV a s), .bool (tnB s)]) /\ Below w.heap.size w w' := by
 have hI := zVq s
 by_cases h : 0 <= s /\ s <= 3
 ·have hB : tnB s = true := decide_eq_true h
  rw [hB] at hI
  have HI := hid hI
  rw [show tnV a s = tnW a s from if_pos hB, hB]
  have HN := hid (Next_yes a s (by omega) (by omega) la.1 la.2)
  unfold tnW
  clear la ls hB hI h
  go_enter Tryz.func208, Tryz.ntmps208
  go_wp2_with fail
  refine (HI.out _).mono ?_
  rintro e w' ⟨rfl, rfl⟩
  go_wp2_with fail
  refine (HN.out _).mono ?_
  rintro e w' ⟨rfl, rfl⟩
  go_wp2_with fail
  go_ret2
  exact ⟨rfl, Below.refl _ _⟩
 ·have hB : tnB s = false := decide_eq_false h
  rw [hB] at hI
  have HI := hid hI
  rw [show tnV a s = 0 from if_neg (by rw [hB]; decide), hB]
  clear h hB hI
  go_enter Tryz.func208, Tryz.ntmps208
  go_wp2_with fail
  refine (HI.out _).mono ?_
  rintro e w' ⟨rfl, rfl⟩
  go_wp2_with fail
  go_ret2
  exact ⟨rfl, Below.refl _ _⟩
theorem sBody_any (v n : Int) (lv : W64 v) (ln : W64 n) (w : World) :
 Calls Tryz.prog 201 #[.int .i64 v, .int .i64 n] w fun e w' => e = .returned (.tuple #[.int .i64 (bdV v n), .bool (bdB v n)]) /\ Below w.heap.size w w' := by
 have hI := mayBe_any v n
 by_cases h : 0 <= v /\ v <= 11 /\ 1 <= n /\ n <= 1048576
 ·have hB : bdB v n = true := decide_eq_true h
  rw [hB] at hI
  have HI := hid hI
  rw [show bdV v n = v * 2097152 + n from if_pos hB, hB]
  obtain ⟨h0, h1, h2, h3⟩ := h
  clear hB lv ln hI
  go_enter Tryz.func201, Tryz.ntmps201
  go_wp2_with fail
  refine (HI.out _).mono ?_
  rintro e w' ⟨rfl, rfl⟩
  go_wp2_with fail
  go_ret2
  exact ⟨rfl, Below.refl _ _⟩
 ·have hB : bdB v n = false := decide_eq_false h
  rw [hB] at hI
  have HI := hid hI
  rw [show bdV v n = 0 from if_neg (by rw [hB]; decide), hB]
  clear h hB hI
  go_enter Tryz.func201, Tryz.ntmps201
  go_wp2_with fail
  refine (HI.out _).mono ?_
  rintro e w' ⟨rfl, rfl⟩
  go_wp2_with fail
  go_ret2
  exact ⟨rfl, Below.refl _ _⟩
theorem sOf_any (a : Int) (la : W64 a) (w : World) :
 Calls Tryz.prog 236 #[.int .i64 a] w fun e w' => e = .returned (.tuple #[.int .i64 (ofV a), .int .i64 (ofN a), .bool (ofB a)]) /\ Below w.heap.size w w' := by
 have H := hid (split21 a)
 have hI := mayBe_any (a / 2097152) (a % 2097152)
 have hBB : bdB (a / 2097152) (a % 2097152) = ofB a := by unfold bdB ofB; congr 1; apply propext; constructor <;> (intro h; omega)
 by_cases h : ofB a = true
 ·rw [show ofV a = a / 2097152 from if_pos h, show ofN a = a % 2097152 from if_pos h, h]
  rw [hBB, h] at hI
  have HI := hid hI
  clear h hBB hI la
  go_enter Tryz.func236, Tryz.ntmps236
  go_wp2_with fail
  refine (H.out _).mono ?_
  rintro e w' ⟨rfl, rfl⟩
  go_wp2_with fail
  refine (HI.out _).mono ?_
  rintro e w' ⟨rfl, rfl⟩
  go_wp2_with fail
  go_ret3
  exact ⟨rfl, (Below.refl _ _).drew⟩
 ·have hf : ofB a = false := by simpa using h
  rw [show ofV a = 0 from if_neg h, show ofN a = 0 from if_neg h, hf]
  rw [hBB, hf] at hI
  have HI := hid hI
  clear h hf hBB hI la
  go_enter Tryz.func236, Tryz.ntmps236
  go_wp2_with fail
  refine (H.out _).mono ?_
  rintro e w' ⟨rfl, rfl⟩
  go_wp2_with fail
  refine (HI.out _).mono ?_
  rintro e w' ⟨rfl, rfl⟩
  go_wp2_with fail
  go_ret3
  exact ⟨rfl, (Below.refl _ _).drew⟩
theorem zYy {w a b : World} (h : Below w.heap.size w a) (k : Below a.heap.size a b) : Below w.heap.size w b := h.trans (k.mono h.size)
theorem sHandle_any (t a : Int) (lt : W64 t) (la : W64 a) (w : World) :
 Calls Tryz.prog 162 #[.int .i64 t, .int .i64 a] w fun e w' => e = .returned (.tuple #[.int .i64 (hdV t a), .bool (hdB t)]) /\ Below w.heap.size w w' := by
 have hv := zWm a
 have HV := hid (zWc a la.1 la.2)
 have hN := number_any t (pver a) lt hv.1 hv.2
 by_cases h : hdB t = true
 ·have hh := of_decide_eq_true h
  have hw : wrap64 (pver a * 16 + t) = pver a * 16 + t := by unfold wrap64; omega
  rw [hw] at hN
  have hM := zTz (pver a * 16 + t)
  rw [show (pver a * 16 + t) % 16 = t from by omega, show (pver a * 16 + t) / 16 = pver a from by omega] at hM
  rw [show hdV t a = pver a * 16 + t from if_pos h, h]
  have HN := hid hN
  have HM := hid hM
  clear h hh hw hN hM hv lt la
  unfold hnd at HN HM
  generalize pver a = v at *
  go_enter Tryz.func162, Tryz.ntmps162
  go_wp2_with fail
  refine (HV.out _).mono ?_
  rintro e w' ⟨rfl, rfl⟩
  go_wp2_with fail
  have hb := hid ((Below.refl w.heap.size w).alloc (Nat.le_refl _) (Obj.cells #[.int .i64 t, .int .i64 v] 158))
  have c0 : (w.alloc (Obj.cells #[.int .i64 t, .int .i64 v] 158)).cell? ⟨w.heap.size, 0, none⟩ = some (.int .i64 t) := by go_simp
  have c1 : (w.alloc (Obj.cells #[.int .i64 t, .int .i64 v] 158)).cell? ⟨w.heap.size, 1, none⟩ = some (.int .i64 v) := by go_simp
  generalize (w.alloc (Obj.cells #[.int .i64 t, .int .i64 v] 158)) = wr at *
  have k0 := cell_regrown c0
  have k1 := cell_regrown c1
  have C1 := fun (d : Nat) (os : Array Obj) => Calls.regrown_of (HN.out (Go.Sort.grow (redrawn wr d) os))
  have C2 := fun (d : Nat) (os : Array Obj) => Calls.regrown_of (HM.out (Go.Sort.grow (redrawn wr d) os))
  try dsimp only [List.append]
  refine wp_region_quiet_below (by kernel_rfl) (by kernel_rfl) ?_
  repeat (go_big_quiet_step ((first | (go_at_call 207; with_reducible exact C1 _ _) | (go_at_call 127; with_reducible exact C2 _ _))))
  refine wpQuiet_nil ?_
  intro _ hw'
  obtain ⟨⟨dq, osq⟩, hw''⟩ := hw'
  subst hw''
  have hb2 := hid (zYy hb.out (below_regrown wr dq osq))
  have c0 := k0 dq osq
  have c1 := k1 dq osq
  clear k0 k1 C1 C2 hb HM
  generalize Go.Sort.grow (redrawn wr dq) osq = wz at *
  go_wp2_with fail
  refine (HN.out _).mono ?_
  rintro e w' ⟨rfl, hb3⟩
  go_wp2_with fail
  go_ret2
  exact ⟨rfl, zYy hb2.out hb3⟩
 ·have hf : hdB t = false := by simpa using h
  have hM := zTz (wrap64 (pver a * 16 + t))
  have hne : wrap64 (pver a * 16 + t) % 16 ≠ t ∨ (wrap64 (pver a * 16 + t) % 16 = t /\ wrap64 (pver a * 16 + t) / 16 ≠ pver a) := by
   have hh := of_decide_eq_false hf
   unfold W64 at lt
   unfold wrap64
   omega
  rw [show hdV t a = 0 from if_neg h, hf]
  generalize wrap64 (pver a * 16 + t) = n at *
  have HN := hid hN
  have HM := hid hM
  clear h hf hN hM hv lt la
  unfold hnd at HN HM
  generalize pver a = v at *
  rcases hne with hne | ⟨hne, hnf⟩
  ·have hq : (n % 16 == t) = false := by simpa using hne
   generalize n % 16 = x at *
   generalize n / 16 = y at *
   go_enter Tryz.func162, Tryz.ntmps162
   go_wp2_with fail
   refine (HV.out _).mono ?_
   rintro e w' ⟨rfl, rfl⟩
   go_wp2_with fail
   have hb := hid ((Below.refl w.heap.size w).alloc (Nat.le_refl _) (Obj.cells #[.int .i64 t, .int .i64 v] 158))
   have c0 : (w.alloc (Obj.cells #[.int .i64 t, .int .i64 v] 158)).cell? ⟨w.heap.size, 0, none⟩ = some (.int .i64 t) := by go_simp
   have c1 : (w.alloc (Obj.cells #[.int .i64 t, .int .i64 v] 158)).cell? ⟨w.heap.size, 1, none⟩ = some (.int .i64 v) := by go_simp
   generalize (w.alloc (Obj.cells #[.int .i64 t, .int .i64 v] 158)) = wr at *
   have k0 := cell_regrown c0
   have k1 := cell_regrown c1
   have C1 := fun (d : Nat) (os : Array Obj) => Calls.regrown_of (HN.out (Go.Sort.grow (redrawn wr d) os))
   have C2 := fun (d : Nat) (os : Array Obj) => Calls.regrown_of (HM.out (Go.Sort.grow (redrawn wr d) os))
   try dsimp only [List.append]
   refine wp_region_quiet_below (by kernel_rfl) (by kernel_rfl) ?_
   repeat (go_big_quiet_step ((first | (go_at_call 207; with_reducible exact C1 _ _) | (go_at_call 127; with_reducible exact C2 _ _))))
   refine wpQuiet_nil ?_
   intro _ hw'
   obtain ⟨⟨dq, osq⟩, hw''⟩ := hw'
   subst hw''
   have hb2 := hid (zYy hb.out (below_regrown wr dq osq))
   clear k0 k1 C1 C2 hb HM HN
   generalize Go.Sort.grow (redrawn wr dq) osq = wz at *
   go_wp2_with fail
   go_ret2
   exact ⟨rfl, hb2.out⟩
  ·have hq : (n / 16 == v) = false := by simpa using hnf
   generalize n % 16 = x at *
   generalize n / 16 = y at *
   subst hne
   go_enter Tryz.func162, Tryz.ntmps162
   go_wp2_with fail
   refine (HV.out _).mono ?_
   rintro e w' ⟨rfl, rfl⟩
   go_wp2_with fail
   have hb := hid ((Below.refl w.heap.size w).alloc (Nat.le_refl _) (Obj.cells #[.int .i64 x, .int .i64 v] 158))
   have c0 : (w.alloc (Obj.cells #[.int .i64 x, .int .i64 v] 158)).cell? ⟨w.heap.size, 0, none⟩ = some (.int .i64 x) := by go_simp
   have c1 : (w.alloc (Obj.cells #[.int .i64 x, .int .i64 v] 158)).cell? ⟨w.heap.size, 1, none⟩ = some (.int .i64 v) := by go_simp
   generalize (w.alloc (Obj.cells #[.int .i64 x, .int .i64 v] 158)) = wr at *
   have k0 := cell_regrown c0
   have k1 := cell_regrown c1
   have C1 := fun (d : Nat) (os : Array Obj) => Calls.regrown_of (HN.out (Go.Sort.grow (redrawn wr d) os))
   have C2 := fun (d : Nat) (os : Array Obj) => Calls.regrown_of (HM.out (Go.Sort.grow (redrawn wr d) os))
   try dsimp only [List.append]
   refine wp_region_quiet_below (by kernel_rfl) (by kernel_rfl) ?_
   repeat (go_big_quiet_step ((first | (go_at_call 207; with_reducible exact C1 _ _) | (go_at_call 127; with_reducible exact C2 _ _))))
   refine wpQuiet_nil ?_
   intro _ hw'
   obtain ⟨⟨dq, osq⟩, hw''⟩ := hw'
   subst hw''
   have hb2 := hid (zYy hb.out (below_regrown wr dq osq))
   clear k0 k1 C1 C2 hb HM HN
   generalize Go.Sort.grow (redrawn wr dq) osq = wz at *
   go_wp2_with fail
   go_ret2
   exact ⟨rfl, hb2.out⟩
theorem zRa (h k : Int) (lh : W64 h) (k0 : 1 <= k) (k1 : k <= 16) (w : World) :
 Calls Tryz.prog 92 #[.int .i64 h, .int .i64 k] w fun e w' => e = .returned (.tuple #[.int .i64 (nmT h k), .int .i64 (nmV h k), .bool (nmB h k)]) /\ Below w.heap.size w w' := by
 have HM := hid (zTz h)
 have hI := zQm (h / 16) (by unfold W64 at *; omega)
 unfold hnd at HM
 by_cases hh : 0 <= h / 16 /\ h / 16 <= 4294967295
 ·rw [decide_eq_true hh] at hI
  by_cases hk : h % 16 < k
  ·have hn : nmB h k = true := decide_eq_true ⟨by omega, hk, hh.2⟩
   rw [show nmT h k = h % 16 from if_pos hn, show nmV h k = h / 16 from if_pos hn, hn]
   have HI := hid hI
   clear hI hh hn lh k0 k1
   generalize h % 16 = x at *
   generalize h / 16 = y at *
   go_enter Tryz.func92, Tryz.ntmps92
   go_wp2_with fail
   refine (HM.out _).mono ?_
   rintro e w2 ⟨rfl, hb⟩
   go_wp2_with fail
   refine (HI.out _).mono ?_
   rintro e w' ⟨rfl, rfl⟩
   go_wp2_with fail
   go_region
   go_wp2_with fail
   go_ret3
   exact ⟨rfl, (hb.alloc hb.size _).drew⟩
  ·have hn : nmB h k = false := decide_eq_false (by omega)
   have hk' : k <= h % 16 := by omega
   rw [show nmT h k = 0 from if_neg (by rw [hn]; decide), show nmV h k = 0 from if_neg (by rw [hn]; decide), hn]
   have HI := hid hI
   clear hI hh hn lh k0 k1 hk
   generalize h % 16 = x at *
   generalize h / 16 = y at *
   go_enter Tryz.func92, Tryz.ntmps92
   go_wp2_with fail
   refine (HM.out _).mono ?_
   rintro e w2 ⟨rfl, hb⟩
   go_wp2_with fail
   refine (HI.out _).mono ?_
   rintro e w' ⟨rfl, rfl⟩
   go_wp2_with fail
   go_ret3
   exact ⟨rfl, hb.alloc hb.size _⟩
 ·rw [decide_eq_false hh] at hI
  have hn : nmB h k = false := decide_eq_false (by omega)
  rw [show nmT h k = 0 from if_neg (by rw [hn]; decide), show nmV h k = 0 from if_neg (by rw [hn]; decide), hn]
  have HI := hid hI
  clear hI hh hn lh k0 k1
  generalize h % 16 = x at *
  generalize h / 16 = y at *
  go_enter Tryz.func92, Tryz.ntmps92
  go_wp2_with fail
  refine (HM.out _).mono ?_
  rintro e w2 ⟨rfl, hb⟩
  go_wp2_with fail
  refine (HI.out _).mono ?_
  rintro e w' ⟨rfl, rfl⟩
  go_wp2_with fail
  go_ret3
  exact ⟨rfl, hb.alloc hb.size _⟩
end
end Go.Proofs.YtdglnpfnjinbkaaGreat
