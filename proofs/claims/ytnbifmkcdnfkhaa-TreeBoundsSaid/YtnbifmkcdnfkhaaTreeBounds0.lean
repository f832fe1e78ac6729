/- TreeBounds. Written by tools/gen_bounds.py. -/
import Derived.Test.YtnbifmkcdnfkhaaTreeIn
namespace Go.Proofs.Ytnbifmkcdnfkhaa
open Go.ChangeShapes Go.WideShapes Go.ChangeAt Go.RowKit Go.Shelf
set_option linter.unusedVariables false
theorem Right_new {W w1 : World} (c : Cf) (hp4 : c.ps.length = 4) (hl4 : c.ls.length = 4) (hw : c.Wf) (r : Bool) (hr : r = true ↔ c.Rt) (h : Own W (fun _ => False) [] w1) :
    Calls Try.prog 11 #[cfV c (rowAt (w1.heap.size + 1) 4) (rowAt (w1.heap.size + 1 + 1) 4)] (((w1.alloc (cfO c (rowAt (w1.heap.size + 1) 4) (rowAt (w1.heap.size + 1 + 1) 4))).alloc (.cells (intC c.ps).toArray 3)).alloc (.cells (intC c.ls).toArray 3))
      fun e w' => e = .returned (.bool r) ∧ Below W.heap.size W w' := by
  have h1 := h.alloc (cfO c (rowAt (w1.heap.size + 1) 4) (rowAt (w1.heap.size + 1 + 1) 4))
  have i1 := lit_at (w1.alloc (cfO c (rowAt (w1.heap.size + 1) 4) (rowAt (w1.heap.size + 1 + 1) 4))) c.ps (w1.heap.size + 1) (by simp)
  have i2 := lit_at ((w1.alloc (cfO c (rowAt (w1.heap.size + 1) 4) (rowAt (w1.heap.size + 1 + 1) 4))).alloc (.cells (intC c.ps).toArray 3)) c.ls (w1.heap.size + 1 + 1) (by simp)
  rw [hp4] at i1
  rw [hl4] at i2
  have i3 := i1.below (((Below.refl _ _).alloc (Nat.le_refl _) (.cells (intC c.ls).toArray 3)))
  have h3 := (h1.alloc (.cells (intC c.ps).toArray 3)).alloc (.cells (intC c.ls).toArray 3)
  by_cases hrt : c.Rt
  · have e : r = true := hr.2 hrt
    subst e
    exact (Right_is c hw i3 i2 hrt).mono fun _ _ ⟨a, b⟩ => ⟨a, (h3.below b).toBelow⟩
  · have e : r = false := by rw [Bool.eq_false_iff]; exact fun h' => hrt (hr.1 h')
    subst e
    exact (Right_no c hw i3 i2 hrt).mono fun _ _ ⟨a, b⟩ => ⟨a, (h3.below b).toBelow⟩
def cf0 (n : Int) : Cf := ⟨n, baseC.st, baseC.ga, baseC.le, baseC.re, baseC.ti, [-1, 0, 1, 0], [20, 10, 8, 5]⟩
theorem rt0 (n : Int) : (cf0 n).Rt ↔ Bd 1 8 n := ⟨fun h => h.th, fun h => ⟨h, base_rt.st, base_rt.ga, base_rt.le, base_rt.re, base_rt.ti, base_rt.n0, base_rt.n1, base_rt.gr, base_rt.ll, base_rt.lm⟩⟩
theorem wf0 (n : Int) (h : Bd (-9223372036854775808) 9223372036854775807 n) : (cf0 n).Wf := ⟨h, base_wf.st, base_wf.ga, base_wf.le, base_wf.re, base_wf.ti, base_wf.pn, base_wf.ln, base_wf.pb, base_wf.lb⟩
def cf1 (n : Int) : Cf := ⟨baseC.th, n, baseC.ga, baseC.le, baseC.re, baseC.ti, [-1, 0, 1, 0], [20, 10, 8, 5]⟩
theorem rt1 (n : Int) : (cf1 n).Rt ↔ Pow n := ⟨fun h => h.st, fun h => ⟨base_rt.th, h, base_rt.ga, base_rt.le, base_rt.re, base_rt.ti, base_rt.n0, base_rt.n1, base_rt.gr, base_rt.ll, base_rt.lm⟩⟩
theorem wf1 (n : Int) (h : Bd (-9223372036854775808) 9223372036854775807 n) : (cf1 n).Wf := ⟨base_wf.th, h, base_wf.ga, base_wf.le, base_wf.re, base_wf.ti, base_wf.pn, base_wf.ln, base_wf.pb, base_wf.lb⟩
def cf2 (n : Int) : Cf := ⟨baseC.th, baseC.st, n, baseC.le, baseC.re, baseC.ti, [-1, 0, 1, 0], [20, 10, 8, 5]⟩
theorem rt2 (n : Int) : (cf2 n).Rt ↔ Bd 1 1048576 n := ⟨fun h => h.ga, fun h => ⟨base_rt.th, base_rt.st, h, base_rt.le, base_rt.re, base_rt.ti, base_rt.n0, base_rt.n1, base_rt.gr, base_rt.ll, base_rt.lm⟩⟩
theorem wf2 (n : Int) (h : Bd (-9223372036854775808) 9223372036854775807 n) : (cf2 n).Wf := ⟨base_wf.th, base_wf.st, h, base_wf.le, base_wf.re, base_wf.ti, base_wf.pn, base_wf.ln, base_wf.pb, base_wf.lb⟩
def cf3 (n : Int) : Cf := ⟨baseC.th, baseC.st, baseC.ga, n, baseC.re, baseC.ti, [-1, 0, 1, 0], [20, 10, 8, 5]⟩
theorem rt3 (n : Int) : (cf3 n).Rt ↔ Bd 0 1048576 n := ⟨fun h => h.le, fun h => ⟨base_rt.th, base_rt.st, base_rt.ga, h, base_rt.re, base_rt.ti, base_rt.n0, base_rt.n1, base_rt.gr, base_rt.ll, base_rt.lm⟩⟩
theorem wf3 (n : Int) (h : Bd (-9223372036854775808) 9223372036854775807 n) : (cf3 n).Wf := ⟨base_wf.th, base_wf.st, base_wf.ga, h, base_wf.re, base_wf.ti, base_wf.pn, base_wf.ln, base_wf.pb, base_wf.lb⟩
def cf4 (n : Int) : Cf := ⟨baseC.th, baseC.st, baseC.ga, baseC.le, n, baseC.ti, [-1, 0, 1, 0], [20, 10, 8, 5]⟩
theorem rt4 (n : Int) : (cf4 n).Rt ↔ Bd 1 8 n := ⟨fun h => h.re, fun h => ⟨base_rt.th, base_rt.st, base_rt.ga, base_rt.le, h, base_rt.ti, base_rt.n0, base_rt.n1, base_rt.gr, base_rt.ll, base_rt.lm⟩⟩
theorem wf4 (n : Int) (h : Bd (-9223372036854775808) 9223372036854775807 n) : (cf4 n).Wf := ⟨base_wf.th, base_wf.st, base_wf.ga, base_wf.le, h, base_wf.ti, base_wf.pn, base_wf.ln, base_wf.pb, base_wf.lb⟩
def cf5 (n : Int) : Cf := ⟨baseC.th, baseC.st, baseC.ga, baseC.le, baseC.re, n, [-1, 0, 1, 0], [20, 10, 8, 5]⟩
theorem rt5 (n : Int) : (cf5 n).Rt ↔ Bd 1 16 n := ⟨fun h => h.ti, fun h => ⟨base_rt.th, base_rt.st, base_rt.ga, base_rt.le, base_rt.re, h, base_rt.n0, base_rt.n1, base_rt.gr, base_rt.ll, base_rt.lm⟩⟩
theorem wf5 (n : Int) (h : Bd (-9223372036854775808) 9223372036854775807 n) : (cf5 n).Wf := ⟨base_wf.th, base_wf.st, base_wf.ga, base_wf.le, base_wf.re, h, base_wf.pn, base_wf.ln, base_wf.pb, base_wf.lb⟩
def cf6 (n : Int) : Cf := ⟨baseC.th, baseC.st, baseC.ga, baseC.le, baseC.re, baseC.ti, [-1, 0, n, 0], [20, 10, 8, 5]⟩
theorem wf6 (n : Int) (h : Bd (-9223372036854775808) 9223372036854775807 n) : (cf6 n).Wf := ⟨base_wf.th, base_wf.st, base_wf.ga, base_wf.le, base_wf.re, base_wf.ti, base_wf.pn, base_wf.ln, fun i hi => match i, hi with | 0, _ => base_wf.pb 0 (by decide) | 1, _ => base_wf.pb 1 (by decide) | 2, _ => h | 3, _ => base_wf.pb 3 (by decide), base_wf.lb⟩
def cf7 (n : Int) : Cf := ⟨baseC.th, baseC.st, baseC.ga, baseC.le, baseC.re, baseC.ti, [-1, 0, 1, 0], [20, 10, 8, n]⟩
theorem wf7 (n : Int) (h : Bd (-9223372036854775808) 9223372036854775807 n) : (cf7 n).Wf := ⟨base_wf.th, base_wf.st, base_wf.ga, base_wf.le, base_wf.re, base_wf.ti, base_wf.pn, base_wf.ln, base_wf.pb, fun i hi => match i, hi with | 0, _ => base_wf.lb 0 (by decide) | 1, _ => base_wf.lb 1 (by decide) | 2, _ => base_wf.lb 2 (by decide) | 3, _ => h⟩
def cf8 (n : Int) : Cf := ⟨baseC.th, baseC.st, baseC.ga, baseC.le, baseC.re, baseC.ti, [n, 0, 1, 0], [20, 10, 8, 5]⟩
theorem wf8 (n : Int) (h : Bd (-9223372036854775808) 9223372036854775807 n) : (cf8 n).Wf := ⟨base_wf.th, base_wf.st, base_wf.ga, base_wf.le, base_wf.re, base_wf.ti, base_wf.pn, base_wf.ln, fun i hi => match i, hi with | 0, _ => h | 1, _ => base_wf.pb 1 (by decide) | 2, _ => base_wf.pb 2 (by decide) | 3, _ => base_wf.pb 3 (by decide), base_wf.lb⟩
theorem rt6 (n : Int) : (cf6 n).Rt ↔ n = 0 ∨ n = 1 := by
  constructor
  · intro h
    have := (h.gr 2 (show 2 < 4 by decide)).2 (by decide)
    simp [cf6] at this; omega
  · intro h
    refine ⟨base_rt.th, base_rt.st, base_rt.ga, base_rt.le, base_rt.re, base_rt.ti, base_rt.n0, base_rt.n1, fun i hi => ?_, rfl, base_rt.lm⟩
    match i, hi with
    | 0, _ => exact base_rt.gr 0 (by decide)
    | 1, _ => exact base_rt.gr 1 (by decide)
    | 2, _ => exact ⟨fun e => by omega, fun _ => by simp [cf6]; omega⟩
    | 3, _ => exact base_rt.gr 3 (by decide)
theorem rt7 (n : Int) : (cf7 n).Rt ↔ Bd 0 1099511627776 n := by
  constructor
  · intro h; exact h.lm 3 (show 3 < 4 by decide)
  · intro h
    refine ⟨base_rt.th, base_rt.st, base_rt.ga, base_rt.le, base_rt.re, base_rt.ti, base_rt.n0, base_rt.n1, base_rt.gr, rfl, fun i hi => ?_⟩
    match i, hi with
    | 0, _ => exact base_rt.lm 0 (by decide)
    | 1, _ => exact base_rt.lm 1 (by decide)
    | 2, _ => exact base_rt.lm 2 (by decide)
    | 3, _ => exact h
theorem rt8 (n : Int) : (cf8 n).Rt ↔ n = -1 := by
  constructor
  · intro h; exact (h.gr 0 (show 0 < 4 by decide)).1 rfl
  · rintro rfl
    exact base_rt
end Go.Proofs.Ytnbifmkcdnfkhaa
