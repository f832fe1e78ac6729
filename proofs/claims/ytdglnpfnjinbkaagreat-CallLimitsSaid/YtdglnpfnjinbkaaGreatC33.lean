/- Texts of elder layers, one behind the other: ShiftStep, ShiftRef, ShiftRef2. -/
import Derived.Test.YtdglnpfnjinbkaaGreatC27
import Derived.Test.YtdglnpfnjinbkaaGreatC32
import Derived.Deep.RegionWith
import Derived.Deep.RegionHeld3
import Derived.Deep.QuietTactic
import Derived.BigQuiet
namespace Go.Proofs.YtdglnpfnjinbkaaGreat
open Go.ChangeShapes Go.WideShapes Go.ChangeAt Go.RowKit Go.Shelf
open Lib (hid)
set_option linter.unusedVariables false
set_option linter.unusedSimpArgs false
set_option maxRecDepth 100000
set_option maxHeartbeats 4000000
section
variable {w0 w w' : World} {F0 : Nat -> Prop} {L : List Asn} {T : TypeId} {m : Nat} {ws : List Int} {lg : List Acc} {pp pl : Option Addr} {np cp nl cl : Nat}
def fnQ (f : FuncId) : Value := .func (Fn.func f) #[] #[]
def row1 : Obj := .cells #[fnQ 134] 283 (0, 0)
def row2 : Obj := .cells #[fnQ 132, fnQ 133, fnQ 134] 283 (0, 0)
def row3 : Obj := .cells #[fnQ 135, fnQ 136, fnQ 137] 283 (0, 0)
section
variable {g b : Nat} {nd n li av wa er an : Int}
theorem zTs (r : Value) (nn wa' er' an' : Int) (q : Bool) (M M' : Asn) (hq : decide ((1 : Int) <= nn) = q)
 (hK : ∀ w, Own w0 F0 (blk g (smO b 1 0 nd n li av wa er an) :: M :: blk b row1 :: L) w -> Calls Tryz.prog 134 #[.pointer (some ⟨g, 0, none⟩), r] w fun e w' => e = .returned (.int .i64 nn) /\ Own w0 F0 (blk g (smO b 1 0 nd n li av wa' er' an') :: M' :: blk b row1 :: L) w')
 (h : Own w0 F0 (blk g (smO b 1 0 nd n li av wa er an) :: M :: blk b row1 :: L) w) :
 Calls Tryz.prog 305 #[.pointer (some ⟨g, 0, none⟩), r] w fun e w' => e = .returned (.bool q) /\ Own w0 F0 (blk g (smO b 1 nn nd n li av wa' er' an') :: M' :: blk b row1 :: L) w' := by
 have HE := hid (zZ2 false (by decide) h)
 have HK := fun w h => hid (hK w h)
 have fe : ∀ w : World, (binOp .eql 138 (.pointer (some ⟨g, 0, none⟩)) (.pointer none)).run Tryz.prog w = .ok (.bool false) w := fun w => by kernel_rfl
 have HQ := hid hq
 clear h hK hq
 go_enter Tryz.func305, Tryz.ntmps305
 go_wp2_with fail
 refine HE.out.mono ?_
 rintro e w1 ⟨rfl, h1⟩
 have c0 : w1.cell? ⟨g, 0, none⟩ = some (.slice (some ⟨b, 0, none⟩) 1 1) := h1.cell (i := 0) rfl
 have c1 : w1.cell? ⟨g, 1, none⟩ = some (.int .i64 0) := h1.cell (i := 1) rfl
 have cb : w1.cell? ⟨b, 0, none⟩ = some (.func (Fn.func 134) #[] #[]) := h1.p2.cell (i := 0) rfl
 have cf : w1.frozen? ⟨g, 1, none⟩ = false := h1.unfrozen
 have H1 := hid (HK _ h1.drew)
 clear HE h1 HK
 go_wp2_with fail
 go_region_with (first | (go_at_call 134; refine H1.out.out.mono ?_; rintro e w4 ⟨rfl, h4⟩; have d1 : w4.cell? ⟨g, 1, none⟩ = some (.int .i64 0) := h4.cell (i := 1) rfl; have df : w4.frozen? ⟨g, 1, none⟩ = false := h4.unfrozen; have H4 : Own w0 F0 (blk g (smO b 1 nn nd n li av wa' er' an') :: M' :: blk b row1 :: L) _ := h4.set 1 (.int .i64 nn); have HE2 := hid (zZ2 q HQ.out H4); clear h4 H4))
 all_goals
  go_wp2_with fail
  refine HE2.out.mono ?_
  rintro e w5 ⟨rfl, h5⟩
  have H5 := hid h5
  clear h5
  go_wp2_with fail
  go_ret
  exact ⟨rfl, H5.out⟩
theorem shStep_20 (r : Value) (nn wa' er' an' : Int) (q : Bool) (M M' : Asn) (hq : decide ((3 : Int) <= nn) = q)
 (hK : ∀ w, Own w0 F0 (blk g (smO b 3 0 nd n li av wa er an) :: M :: blk b row2 :: L) w -> Calls Tryz.prog 132 #[.pointer (some ⟨g, 0, none⟩), r] w fun e w' => e = .returned (.int .i64 nn) /\ Own w0 F0 (blk g (smO b 3 0 nd n li av wa' er' an') :: M' :: blk b row2 :: L) w')
 (h : Own w0 F0 (blk g (smO b 3 0 nd n li av wa er an) :: M :: blk b row2 :: L) w) :
 Calls Tryz.prog 305 #[.pointer (some ⟨g, 0, none⟩), r] w fun e w' => e = .returned (.bool q) /\ Own w0 F0 (blk g (smO b 3 nn nd n li av wa' er' an') :: M' :: blk b row2 :: L) w' := by
 have HE := hid (zZ2 false (by decide) h)
 have HK := fun w h => hid (hK w h)
 have fe : ∀ w : World, (binOp .eql 138 (.pointer (some ⟨g, 0, none⟩)) (.pointer none)).run Tryz.prog w = .ok (.bool false) w := fun w => by kernel_rfl
 have HQ := hid hq
 clear h hK hq
 go_enter Tryz.func305, Tryz.ntmps305
 go_wp2_with fail
 refine HE.out.mono ?_
 rintro e w1 ⟨rfl, h1⟩
 have c0 : w1.cell? ⟨g, 0, none⟩ = some (.slice (some ⟨b, 0, none⟩) 3 3) := h1.cell (i := 0) rfl
 have c1 : w1.cell? ⟨g, 1, none⟩ = some (.int .i64 0) := h1.cell (i := 1) rfl
 have cb : w1.cell? ⟨b, 0, none⟩ = some (.func (Fn.func 132) #[] #[]) := h1.p2.cell (i := 0) rfl
 have cf : w1.frozen? ⟨g, 1, none⟩ = false := h1.unfrozen
 have H1 := hid (HK _ h1.drew)
 clear HE h1 HK
 go_wp2_with fail
 go_region_with (first | (go_at_call 132; refine H1.out.out.mono ?_; rintro e w4 ⟨rfl, h4⟩; have d1 : w4.cell? ⟨g, 1, none⟩ = some (.int .i64 0) := h4.cell (i := 1) rfl; have df : w4.frozen? ⟨g, 1, none⟩ = false := h4.unfrozen; have H4 : Own w0 F0 (blk g (smO b 3 nn nd n li av wa' er' an') :: M' :: blk b row2 :: L) _ := h4.set 1 (.int .i64 nn); have HE2 := hid (zZ2 q HQ.out H4); clear h4 H4))
 all_goals
  go_wp2_with fail
  refine HE2.out.mono ?_
  rintro e w5 ⟨rfl, h5⟩
  have H5 := hid h5
  clear h5
  go_wp2_with fail
  go_ret
  exact ⟨rfl, H5.out⟩
theorem shStep_21 (r : Value) (nn wa' er' an' : Int) (q : Bool) (M M' : Asn) (hq : decide ((3 : Int) <= nn) = q)
 (hK : ∀ w, Own w0 F0 (blk g (smO b 3 1 nd n li av wa er an) :: M :: blk b row2 :: L) w -> Calls Tryz.prog 133 #[.pointer (some ⟨g, 0, none⟩), r] w fun e w' => e = .returned (.int .i64 nn) /\ Own w0 F0 (blk g (smO b 3 1 nd n li av wa' er' an') :: M' :: blk b row2 :: L) w')
 (h : Own w0 F0 (blk g (smO b 3 1 nd n li av wa er an) :: M :: blk b row2 :: L) w) :
 Calls Tryz.prog 305 #[.pointer (some ⟨g, 0, none⟩), r] w fun e w' => e = .returned (.bool q) /\ Own w0 F0 (blk g (smO b 3 nn nd n li av wa' er' an') :: M' :: blk b row2 :: L) w' := by
 have HE := hid (zZ2 false (by decide) h)
 have HK := fun w h => hid (hK w h)
 have fe : ∀ w : World, (binOp .eql 138 (.pointer (some ⟨g, 0, none⟩)) (.pointer none)).run Tryz.prog w = .ok (.bool false) w := fun w => by kernel_rfl
 have HQ := hid hq
 clear h hK hq
 go_enter Tryz.func305, Tryz.ntmps305
 go_wp2_with fail
 refine HE.out.mono ?_
 rintro e w1 ⟨rfl, h1⟩
 have c0 : w1.cell? ⟨g, 0, none⟩ = some (.slice (some ⟨b, 0, none⟩) 3 3) := h1.cell (i := 0) rfl
 have c1 : w1.cell? ⟨g, 1, none⟩ = some (.int .i64 1) := h1.cell (i := 1) rfl
 have cb : w1.cell? ⟨b, 1, none⟩ = some (.func (Fn.func 133) #[] #[]) := h1.p2.cell (i := 1) rfl
 have cf : w1.frozen? ⟨g, 1, none⟩ = false := h1.unfrozen
 have H1 := hid (HK _ h1.drew)
 clear HE h1 HK
 go_wp2_with fail
 go_region_with (first | (go_at_call 133; refine H1.out.out.mono ?_; rintro e w4 ⟨rfl, h4⟩; have d1 : w4.cell? ⟨g, 1, none⟩ = some (.int .i64 1) := h4.cell (i := 1) rfl; have df : w4.frozen? ⟨g, 1, none⟩ = false := h4.unfrozen; have H4 : Own w0 F0 (blk g (smO b 3 nn nd n li av wa' er' an') :: M' :: blk b row2 :: L) _ := h4.set 1 (.int .i64 nn); have HE2 := hid (zZ2 q HQ.out H4); clear h4 H4))
 all_goals
  go_wp2_with fail
  refine HE2.out.mono ?_
  rintro e w5 ⟨rfl, h5⟩
  have H5 := hid h5
  clear h5
  go_wp2_with fail
  go_ret
  exact ⟨rfl, H5.out⟩
theorem shStep_22 (r : Value) (nn wa' er' an' : Int) (q : Bool) (M M' : Asn) (hq : decide ((3 : Int) <= nn) = q)
 (hK : ∀ w, Own w0 F0 (blk g (smO b 3 2 nd n li av wa er an) :: M :: blk b row2 :: L) w -> Calls Tryz.prog 134 #[.pointer (some ⟨g, 0, none⟩), r] w fun e w' => e = .returned (.int .i64 nn) /\ Own w0 F0 (blk g (smO b 3 2 nd n li av wa' er' an') :: M' :: blk b row2 :: L) w')
 (h : Own w0 F0 (blk g (smO b 3 2 nd n li av wa er an) :: M :: blk b row2 :: L) w) :
 Calls Tryz.prog 305 #[.pointer (some ⟨g, 0, none⟩), r] w fun e w' => e = .returned (.bool q) /\ Own w0 F0 (blk g (smO b 3 nn nd n li av wa' er' an') :: M' :: blk b row2 :: L) w' := by
 have HE := hid (zZ2 false (by decide) h)
 have HK := fun w h => hid (hK w h)
 have fe : ∀ w : World, (binOp .eql 138 (.pointer (some ⟨g, 0, none⟩)) (.pointer none)).run Tryz.prog w = .ok (.bool false) w := fun w => by kernel_rfl
 have HQ := hid hq
 clear h hK hq
 go_enter Tryz.func305, Tryz.ntmps305
 go_wp2_with fail
 refine HE.out.mono ?_
 rintro e w1 ⟨rfl, h1⟩
 have c0 : w1.cell? ⟨g, 0, none⟩ = some (.slice (some ⟨b, 0, none⟩) 3 3) := h1.cell (i := 0) rfl
 have c1 : w1.cell? ⟨g, 1, none⟩ = some (.int .i64 2) := h1.cell (i := 1) rfl
 have cb : w1.cell? ⟨b, 2, none⟩ = some (.func (Fn.func 134) #[] #[]) := h1.p2.cell (i := 2) rfl
 have cf : w1.frozen? ⟨g, 1, none⟩ = false := h1.unfrozen
 have H1 := hid (HK _ h1.drew)
 clear HE h1 HK
 go_wp2_with fail
 go_region_with (first | (go_at_call 134; refine H1.out.out.mono ?_; rintro e w4 ⟨rfl, h4⟩; have d1 : w4.cell? ⟨g, 1, none⟩ = some (.int .i64 2) := h4.cell (i := 1) rfl; have df : w4.frozen? ⟨g, 1, none⟩ = false := h4.unfrozen; have H4 : Own w0 F0 (blk g (smO b 3 nn nd n li av wa' er' an') :: M' :: blk b row2 :: L) _ := h4.set 1 (.int .i64 nn); have HE2 := hid (zZ2 q HQ.out H4); clear h4 H4))
 all_goals
  go_wp2_with fail
  refine HE2.out.mono ?_
  rintro e w5 ⟨rfl, h5⟩
  have H5 := hid h5
  clear h5
  go_wp2_with fail
  go_ret
  exact ⟨rfl, H5.out⟩
theorem shStep_30 (r : Value) (nn wa' er' an' : Int) (q : Bool) (M M' : Asn) (hq : decide ((3 : Int) <= nn) = q)
 (hK : ∀ w, Own w0 F0 (blk g (smO b 3 0 nd n li av wa er an) :: M :: blk b row3 :: L) w -> Calls Tryz.prog 135 #[.pointer (some ⟨g, 0, none⟩), r] w fun e w' => e = .returned (.int .i64 nn) /\ Own w0 F0 (blk g (smO b 3 0 nd n li av wa' er' an') :: M' :: blk b row3 :: L) w')
 (h : Own w0 F0 (blk g (smO b 3 0 nd n li av wa er an) :: M :: blk b row3 :: L) w) :
 Calls Tryz.prog 305 #[.pointer (some ⟨g, 0, none⟩), r] w fun e w' => e = .returned (.bool q) /\ Own w0 F0 (blk g (smO b 3 nn nd n li av wa' er' an') :: M' :: blk b row3 :: L) w' := by
 have HE := hid (zZ2 false (by decide) h)
 have HK := fun w h => hid (hK w h)
 have fe : ∀ w : World, (binOp .eql 138 (.pointer (some ⟨g, 0, none⟩)) (.pointer none)).run Tryz.prog w = .ok (.bool false) w := fun w => by kernel_rfl
 have HQ := hid hq
 clear h hK hq
 go_enter Tryz.func305, Tryz.ntmps305
 go_wp2_with fail
 refine HE.out.mono ?_
 rintro e w1 ⟨rfl, h1⟩
 have c0 : w1.cell? ⟨g, 0, none⟩ = some (.slice (some ⟨b, 0, none⟩) 3 3) := h1.cell (i := 0) rfl
 have c1 : w1.cell? ⟨g, 1, none⟩ = some (.int .i64 0) := h1.cell (i := 1) rfl
 have cb : w1.cell? ⟨b, 0, none⟩ = some (.func (Fn.func 135) #[] #[]) := h1.p2.cell (i := 0) rfl
 have cf : w1.frozen? ⟨g, 1, none⟩ = false := h1.unfrozen
 have H1 := hid (HK _ h1.drew)
 clear HE h1 HK
 go_wp2_with fail
 go_region_with (first | (go_at_call 135; refine H1.out.out.mono ?_; rintro e w4 ⟨rfl, h4⟩; have d1 : w4.cell? ⟨g, 1, none⟩ = some (.int .i64 0) := h4.cell (i := 1) rfl; have df : w4.frozen? ⟨g, 1, none⟩ = false := h4.unfrozen; have H4 : Own w0 F0 (blk g (smO b 3 nn nd n li av wa' er' an') :: M' :: blk b row3 :: L) _ := h4.set 1 (.int .i64 nn); have HE2 := hid (zZ2 q HQ.out H4); clear h4 H4))
 all_goals
  go_wp2_with fail
  refine HE2.out.mono ?_
  rintro e w5 ⟨rfl, h5⟩
  have H5 := hid h5
  clear h5
  go_wp2_with fail
  go_ret
  exact ⟨rfl, H5.out⟩
theorem shStep_31 (r : Value) (nn wa' er' an' : Int) (q : Bool) (M M' : Asn) (hq : decide ((3 : Int) <= nn) = q)
 (hK : ∀ w, Own w0 F0 (blk g (smO b 3 1 nd n li av wa er an) :: M :: blk b row3 :: L) w -> Calls Tryz.prog 136 #[.pointer (some ⟨g, 0, none⟩), r] w fun e w' => e = .returned (.int .i64 nn) /\ Own w0 F0 (blk g (smO b 3 1 nd n li av wa' er' an') :: M' :: blk b row3 :: L) w')
 (h : Own w0 F0 (blk g (smO b 3 1 nd n li av wa er an) :: M :: blk b row3 :: L) w) :
 Calls Tryz.prog 305 #[.pointer (some ⟨g, 0, none⟩), r] w fun e w' => e = .returned (.bool q) /\ Own w0 F0 (blk g (smO b 3 nn nd n li av wa' er' an') :: M' :: blk b row3 :: L) w' := by
 have HE := hid (zZ2 false (by decide) h)
 have HK := fun w h => hid (hK w h)
 have fe : ∀ w : World, (binOp .eql 138 (.pointer (some ⟨g, 0, none⟩)) (.pointer none)).run Tryz.prog w = .ok (.bool false) w := fun w => by kernel_rfl
 have HQ := hid hq
 clear h hK hq
 go_enter Tryz.func305, Tryz.ntmps305
 go_wp2_with fail
 refine HE.out.mono ?_
 rintro e w1 ⟨rfl, h1⟩
 have c0 : w1.cell? ⟨g, 0, none⟩ = some (.slice (some ⟨b, 0, none⟩) 3 3) := h1.cell (i := 0) rfl
 have c1 : w1.cell? ⟨g, 1, none⟩ = some (.int .i64 1) := h1.cell (i := 1) rfl
 have cb : w1.cell? ⟨b, 1, none⟩ = some (.func (Fn.func 136) #[] #[]) := h1.p2.cell (i := 1) rfl
 have cf : w1.frozen? ⟨g, 1, none⟩ = false := h1.unfrozen
 have H1 := hid (HK _ h1.drew)
 clear HE h1 HK
 go_wp2_with fail
 go_region_with (first | (go_at_call 136; refine H1.out.out.mono ?_; rintro e w4 ⟨rfl, h4⟩; have d1 : w4.cell? ⟨g, 1, none⟩ = some (.int .i64 1) := h4.cell (i := 1) rfl; have df : w4.frozen? ⟨g, 1, none⟩ = false := h4.unfrozen; have H4 : Own w0 F0 (blk g (smO b 3 nn nd n li av wa' er' an') :: M' :: blk b row3 :: L) _ := h4.set 1 (.int .i64 nn); have HE2 := hid (zZ2 q HQ.out H4); clear h4 H4))
 all_goals
  go_wp2_with fail
  refine HE2.out.mono ?_
  rintro e w5 ⟨rfl, h5⟩
  have H5 := hid h5
  clear h5
  go_wp2_with fail
  go_ret
  exact ⟨rfl, H5.out⟩
theorem shStep_32 (r : Value) (nn wa' er' an' : Int) (q : Bool) (M M' : Asn) (hq : decide ((3 : Int) <= nn) = q)
 (hK : ∀ w, Own w0 F0 (blk g (smO b 3 2 nd n li av wa er an) :: M :: blk b row3 :: L) w -> Calls Tryz.prog 137 #[.pointer (some ⟨g, 0, none⟩), r] w fun e w' => e = .returned (.int .i64 nn) /\ Own w0 F0 (blk g (smO b 3 2 nd n li av wa' er' an') :: M' :: blk b row3 :: L) w')
 (h : Own w0 F0 (blk g (smO b 3 2 nd n li av wa er an) :: M :: blk b row3 :: L) w) :
 Calls Tryz.prog 305 #[.pointer (some ⟨g, 0, none⟩), r] w fun e w' => e = .returned (.bool q) /\ Own w0 F0 (blk g (smO b 3 nn nd n li av wa' er' an') :: M' :: blk b row3 :: L) w' := by
 have HE := hid (zZ2 false (by decide) h)
 have HK := fun w h => hid (hK w h)
 have fe : ∀ w : World, (binOp .eql 138 (.pointer (some ⟨g, 0, none⟩)) (.pointer none)).run Tryz.prog w = .ok (.bool false) w := fun w => by kernel_rfl
 have HQ := hid hq
 clear h hK hq
 go_enter Tryz.func305, Tryz.ntmps305
 go_wp2_with fail
 refine HE.out.mono ?_
 rintro e w1 ⟨rfl, h1⟩
 have c0 : w1.cell? ⟨g, 0, none⟩ = some (.slice (some ⟨b, 0, none⟩) 3 3) := h1.cell (i := 0) rfl
 have c1 : w1.cell? ⟨g, 1, none⟩ = some (.int .i64 2) := h1.cell (i := 1) rfl
 have cb : w1.cell? ⟨b, 2, none⟩ = some (.func (Fn.func 137) #[] #[]) := h1.p2.cell (i := 2) rfl
 have cf : w1.frozen? ⟨g, 1, none⟩ = false := h1.unfrozen
 have H1 := hid (HK _ h1.drew)
 clear HE h1 HK
 go_wp2_with fail
 go_region_with (first | (go_at_call 137; refine H1.out.out.mono ?_; rintro e w4 ⟨rfl, h4⟩; have d1 : w4.cell? ⟨g, 1, none⟩ = some (.int .i64 2) := h4.cell (i := 1) rfl; have df : w4.frozen? ⟨g, 1, none⟩ = false := h4.unfrozen; have H4 : Own w0 F0 (blk g (smO b 3 nn nd n li av wa' er' an') :: M' :: blk b row3 :: L) _ := h4.set 1 (.int .i64 nn); have HE2 := hid (zZ2 q HQ.out H4); clear h4 H4))
 all_goals
  go_wp2_with fail
  refine HE2.out.mono ?_
  rintro e w5 ⟨rfl, h5⟩
  have H5 := hid h5
  clear h5
  go_wp2_with fail
  go_ret
  exact ⟨rfl, H5.out⟩
end
end
section
variable {w0 w w' : World} {F0 : Nat -> Prop} {L : List Asn} {T : TypeId} {m : Nat} {ws : List Int} {lg : List Acc}
section
variable {k : Nat} {c : Cf} {pp pl : Option Addr} {np cp nl cl : Nat} {kd nd n saw er an bb : Int} {li av : Nat}
end
end
section
variable {w0 w w' : World} {F0 : Nat -> Prop} {L : List Asn} {T : TypeId} {m : Nat} {ws : List Int} {lg : List Acc} {pp pl : Option Addr} {np cp nl cl : Nat}
def shP (what li av : Nat) (n : Int) : QP := if what = 0 then ⟨1, li, av, n, n⟩ else if what = 1 then ⟨2, li, av, n, n⟩ else ⟨3, av, li, n, -n⟩
def erQ (p : QP) (s : QS) : Int := if s.r = true then (if p.kd = 2 then 6 else 4) else 0
def anQ (nd : Int) (p : QP) (s : QS) : Int := if s.r = true /\ p.kd = 3 then nd else 0
end
end Go.Proofs.YtdglnpfnjinbkaaGreat
