/- Contracts of package plan: which word is whose; and of the document's answer. Written by tools/gen_plan.py. -/
import Derived.Test.YtljimbkafijnnaaConf
import Derived.Deep.RegionHeld3
import Derived.Lib.QuietBelow
namespace Go.Proofs.Ytljimbkafijnnaa
open Go.ChangeShapes Go.WideShapes Go.ChangeAt Go.RowKit Go.Shelf
set_option linter.unusedVariables false
variable {w0 w w' W : World} {F0 : Nat → Prop} {L : List Asn} {vp vl : Value} {pp pl : Option Addr} {np cp nl cl : Nat}
/-- How many words a node has; where a node's words begin. -/
def each (c : Cf) : Int := 6 + 2 * c.st
def lim (c : Cf) (v : Int) : Int := v * each c
/-- What the places want of a setting. -/
def Sm (c : Cf) : Prop := 1 ≤ c.st ∧ c.st ≤ 8
theorem Cf.Rt.sm {c : Cf} (h : c.Rt) : Sm c := by
  have := h.st
  unfold Pow at this
  unfold Sm
  omega
theorem each_bd {c : Cf} (h : Sm c) : 8 ≤ each c ∧ each c ≤ 22 := by unfold Sm at h; unfold each; omega
theorem lim_bd {c : Cf} (h : Sm c) {v : Int} (h0 : 0 ≤ v) (h1 : v ≤ 13) : 0 ≤ lim c v ∧ lim c v ≤ 286 := by
  have := each_bd h
  unfold lim
  have a : 0 ≤ v * each c := Int.mul_nonneg h0 (by omega)
  have b : v * each c ≤ 13 * 22 := Int.mul_le_mul h1 (by omega) (by omega) (by omega)
  omega
theorem lim_zero (c : Cf) : lim c 0 = 0 := by unfold lim; omega
theorem lim_next (c : Cf) (v : Int) : lim c (v + 1) = lim c v + each c := by unfold lim; rw [Int.add_mul]; omega
theorem lim_mono {c : Cf} (h : Sm c) {v u : Int} (hu : v ≤ u) : lim c v ≤ lim c u := by
  unfold lim
  exact Int.mul_le_mul_of_nonneg_right hu (by have := each_bd h; omega)
/-- The same in a block of whatever type (a setting that is embedded). -/
abbrev cfT (T : TypeId) (c : Cf) (vp vl : Value) : Obj := .cells #[.int .i64 c.th, .int .i64 c.st, .int .i64 c.ga, .int .i64 c.le, .int .i64 c.re, .int .i64 c.ti, vp, vl] T (0, 0)
theorem cellsT (T : TypeId) (w : World) (c : Cf) (vp vl : Value) (k : Nat) (v : Value) (h : (#[.int .i64 c.th, .int .i64 c.st, .int .i64 c.ga, .int .i64 c.le, .int .i64 c.re, .int .i64 c.ti, vp, vl] : Array Value)[k]? = some v) :
    (w.alloc (cfT T c vp vl)).cell? ⟨w.heap.size, k, none⟩ = some v := by rw [World.cell?_alloc_new]; exact h
/-- A node of a setting. -/
abbrev tnA (c : Cf) (vp vl : Value) (v : Int) : Array Value := #[.int .i64 c.th, .int .i64 c.st, .int .i64 c.ga, .int .i64 c.le, .int .i64 c.re, .int .i64 c.ti, vp, vl, .int .i64 v]
theorem cells9 (T : TypeId) (w : World) (c : Cf) (vp vl : Value) (v : Int) (k : Nat) (u : Value) (h : (tnA c vp vl v)[k]? = some u) :
    (w.alloc (.cells (tnA c vp vl v) T)).cell? ⟨w.heap.size, k, none⟩ = some u := by rw [World.cell?_alloc_new]; exact h
theorem counterBehind_q (c : Cf) (hs : Sm c) (w : World) : Calls Try.prog 82 #[cfV c vp vl] w fun e w' => e = .returned (.int .i64 (2 + c.st)) ∧ Below w.heap.size w w' := by
  obtain ⟨s0, s1⟩ := hs
  go_enter Try.func82, Try.ntmps82
  go_wp2
  go_ret
  exact ⟨rfl, (Stp.refl w).alloc _⟩
theorem nodeWords_q (c : Cf) (hs : Sm c) (w : World) : Calls Try.prog 74 #[cfV c vp vl] w fun e w' => e = .returned (.int .i64 (each c)) ∧ Below w.heap.size w w' := by
  have HC := fun d os => Calls.regrown_of (counterBehind_q (vp := vp) (vl := vl) c hs (Go.Sort.grow (redrawn (w.alloc (cfT 95 c vp vl)) d) os))
  have he : 2 + c.st + 4 + c.st = each c := by unfold each; omega
  have k0 := cell_regrown (cellsT 95 w c vp vl 0 _ rfl)
  have k1 := cell_regrown (cellsT 95 w c vp vl 1 _ rfl)
  have k2 := cell_regrown (cellsT 95 w c vp vl 2 _ rfl)
  have k3 := cell_regrown (cellsT 95 w c vp vl 3 _ rfl)
  have k4 := cell_regrown (cellsT 95 w c vp vl 4 _ rfl)
  have k5 := cell_regrown (cellsT 95 w c vp vl 5 _ rfl)
  have k6 := cell_regrown (cellsT 95 w c vp vl 6 _ rfl)
  have k7 := cell_regrown (cellsT 95 w c vp vl 7 _ rfl)
  obtain ⟨s0, s1⟩ := hs
  go_enter Try.func74, Try.ntmps74
  go_wp2_with fail
  refine wp_region_quiet_below (by kernel_rfl) (by kernel_rfl) ?_
  repeat (go_big_quiet_step ((go_at_call 82; exact HC _ _)))
  refine wpQuiet_nil ?_
  intro _ hw'
  obtain ⟨⟨dq, osq⟩, hw''⟩ := hw'
  subst hw''
  clear k0 k1 k2 k3 k4 k5 k6 k7
  go_wp2_with fail
  go_ret
  exact ⟨rfl, ((Stp.refl w).alloc _).trans (below_regrown _ dq osq)⟩
theorem place_q (c : Cf) (hs : Sm c) (v : Int) (v0 : 0 ≤ v) (v1 : v ≤ 12) (w : World) : Calls Try.prog 48 #[cfV c vp vl, .int .i64 v] w fun e w' => e = .returned (.int .i64 (lim c v)) ∧ Below w.heap.size w w' := by
  have HC := fun w => Lib.hid (nodeWords_q (vp := vp) (vl := vl) c hs w)
  obtain ⟨b0, b1⟩ := lim_bd hs v0 (by omega)
  have hl : lim c v = v * each c := rfl
  rw [hl] at b0 b1 ⊢
  clear hs hl
  generalize each c = E at *
  go_enter Try.func48, Try.ntmps48
  go_wp2_with fail
  refine (HC _).out.mono ?_
  rintro e w1 ⟨rfl, hB⟩
  have HB := Lib.hid (((Stp.refl w).alloc _).trans hB)
  clear hB HC
  go_wp2_with fail
  go_ret
  exact ⟨rfl, HB.out⟩
end Go.Proofs.Ytljimbkafijnnaa
