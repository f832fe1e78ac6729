/- What breadlinelaw06's laws share. -/
import Derived.Test.YtkciaegbiglfmaaAddFacts
import Derived.Test.YtkciaegbiglfmaaAddArg
import Derived.Lib.QuietBelow
import Derived.BigQuiet
import Derived.Deep.QuietTactic
import Derived.Deep.RegionHeld3
namespace Go.Proofs.Ytkciaegbiglfmaa
open Go.ChangeShapes Go.WideShapes Go.ChangeAt Go.RowKit Go.Shelf
set_option linter.unusedVariables false
theorem Own.intsN {w0 w : World} {F0 : Nat → Prop} {L : List Asn} {v : Value} {n : Nat} {zs : List Int} (h : Own w0 F0 (row v 3 1 n (intC zs) :: L) w) (hn : zs.length = n) : IntsAt w .i64 v zs := by
  subst hn; exact h.intsAt
theorem lWords2 {W w : World} {L : List Asn} (c : Cn) (vr vl : Value) (hc : c.Wf) (hn1 : c.ver.length ≤ 20) (hn2 : c.val.length ≤ 20) (hr : IntsAt W .u32 vr c.ver) (hv : IntsAt W .i32 vl c.val) (h : Own W NoF L w) :
    Calls Try.prog 11 #[cnV c vr vl] w (RetRow W NoF L 3 1 (wlay c c.s).length (intC (wlay c c.s))) := by
  rw [wlay_len]; exact lWords_any c vr vl hc hn1 hn2 hr hv h
end Go.Proofs.Ytkciaegbiglfmaa
