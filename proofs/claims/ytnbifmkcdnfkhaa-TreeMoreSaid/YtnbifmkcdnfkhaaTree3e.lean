/- tree.Right of any setting. Written by tools/gen_right.py. -/
import Derived.Test.YtnbifmkcdnfkhaaTree3
import Derived.Test.YtnbifmkcdnfkhaaTree3b
import Derived.Test.YtnbifmkcdnfkhaaTree3c
import Derived.Test.YtnbifmkcdnfkhaaTree3d
namespace Go.Proofs.Ytnbifmkcdnfkhaa
open Go.ChangeShapes Go.WideShapes Go.ChangeAt Go.RowKit
set_option linter.unusedVariables false
variable {w0 w w' : World} {F0 : Nat → Prop} {L : List Asn}
theorem Right_no (c : Cf) (hw : c.Wf) {vp vl : Value} (hp : IntsAt w .i64 vp c.ps) (hl : IntsAt w .i64 vl c.ls) (h : ¬ c.Rt) :
    Calls Try.prog 11 #[cfV c vp vl] w fun e w' => e = .returned (.bool false) ∧ Below w.heap.size w w' := by
  by_cases h0 : Bd 1 8 c.th
  case neg => exact Right_no_th c hw hp hl h0
  by_cases h1 : Bd 1 8 c.st
  case neg => exact Right_no_st c hw hp hl h0 h1
  by_cases h2 : Pow c.st
  case neg => exact Right_no_pow c hw hp hl h0 h1 h2
  by_cases h3 : Bd 1 1048576 c.ga
  case neg => exact Right_no_ga c hw hp hl h0 h1 h2 h3
  by_cases h4 : Bd 0 1048576 c.le
  case neg => exact Right_no_le c hw hp hl h0 h1 h2 h3 h4
  by_cases h5 : Bd 1 8 c.re
  case neg => exact Right_no_re c hw hp hl h0 h1 h2 h3 h4 h5
  by_cases h6 : Bd 1 16 c.ti
  case neg => exact Right_no_ti c hw hp hl h0 h1 h2 h3 h4 h5 h6
  by_cases h7 : Bd 1 12 (c.ps.length : Int)
  case neg => exact Right_no_len c hw hp hl h0 h1 h2 h3 h4 h5 h6 h7
  by_cases h8 : Grown c.ps
  case neg => exact Right_no_gr c hw hp hl h0 h1 h2 h3 h4 h5 h6 h7 h8
  by_cases h9 : c.ls.length = c.ps.length
  case neg => exact Right_no_ll c hw hp hl h0 h1 h2 h3 h4 h5 h6 h7 h8 h9
  by_cases h10 : AllIn 0 1099511627776 c.ls
  case neg => exact Right_no_lm c hw hp hl h0 h1 h2 h3 h4 h5 h6 h7 h8 h9 h10
  exact absurd ⟨h0, h2, h3, h4, h5, h6, by have := h7.1; omega, by have := h7.2; omega, h8, h9, h10⟩ h
theorem Right_is (c : Cf) (hw : c.Wf) {vp vl : Value} (hp : IntsAt w .i64 vp c.ps) (hl : IntsAt w .i64 vl c.ls) (h : c.Rt) :
    Calls Try.prog 11 #[cfV c vp vl] w fun e w' => e = .returned (.bool true) ∧ Below w.heap.size w w' :=
  Right_yes c hw hp hl h.th ⟨by rcases h.st with e | e | e | e <;> rw [e] <;> decide, by rcases h.st with e | e | e | e <;> rw [e] <;> decide⟩ h.st h.ga h.le h.re h.ti ⟨by have := h.n0; omega, by have := h.n1; omega⟩ h.gr h.ll h.lm
end Go.Proofs.Ytnbifmkcdnfkhaa
