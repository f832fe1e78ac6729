/- tree.Right of any setting. Written by tools/gen_right.py. -/
import Derived.Test.YtnbifmkcdnfkhaaTree2
namespace Go.Proofs.Ytnbifmkcdnfkhaa
open Go.ChangeShapes Go.WideShapes Go.ChangeAt Go.RowKit
set_option linter.unusedVariables false
variable {w0 w w' : World} {F0 : Nat → Prop} {L : List Asn}
theorem one_yesO (lo hi x : Int) (hx : Bd lo hi x) (n : Nat) (h : Own w0 F0 L w) (hn : n = w.heap.size) :
    Calls Try.prog 23 #[.int .i64 lo, .int .i64 hi, .slice (some ⟨n, 0, none⟩) 1 1] (w.alloc (.cells #[.int .i64 x] 3)) fun e w' => e = .returned (.bool true) ∧ Own w0 F0 L w' :=
  (one_yes lo hi x hx w n hn).mono fun _ _ ⟨h1, h2⟩ => ⟨h1, h2 ▸ h.alloc _⟩
theorem one_noO (lo hi x : Int) (hx : ¬ Bd lo hi x) (n : Nat) (h : Own w0 F0 L w) (hn : n = w.heap.size) :
    Calls Try.prog 23 #[.int .i64 lo, .int .i64 hi, .slice (some ⟨n, 0, none⟩) 1 1] (w.alloc (.cells #[.int .i64 x] 3)) fun e w' => e = .returned (.bool false) ∧ Own w0 F0 L w' :=
  (one_no lo hi x hx w n hn).mono fun _ _ ⟨h1, h2⟩ => ⟨h1, h2 ▸ h.alloc _⟩
end Go.Proofs.Ytnbifmkcdnfkhaa
