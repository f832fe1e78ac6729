/- Package shift's Step and Ans, by their own code. -/
import Derived.Test.YtlkiadionpnijaaShiftCalls
import Derived.Deep.RegionWith
namespace Go.Proofs.Ytlkiadionpnijaa
open Go.ChangeShapes Go.WideShapes Go.ChangeAt Go.RowKit Go.Shelf
set_option linter.unusedVariables false
set_option linter.unusedSimpArgs false
set_option maxRecDepth 100000
variable {w0 w w' : World} {F0 : Nat → Prop} {L : List Asn} {T : TypeId} {m : Nat} {ws : List Int} {lg : List Acc} {pp pl : Option Addr} {np cp nl cl : Nat}
def fnQ (f : FuncId) : Value := .func (Fn.func f) #[] #[]

def row1 : Obj := .cells #[fnQ 57] 104 (0, 0)
def row2 : Obj := .cells #[fnQ 55, fnQ 56, fnQ 57] 104 (0, 0)
def row3 : Obj := .cells #[fnQ 58, fnQ 59, fnQ 60] 104 (0, 0)
section
variable {g b : Nat} {nd n li av wa er an : Int}

set_option maxHeartbeats 1000000 in
theorem shStep_10 (r : Value) (nn wa' er' an' : Int) (q : Bool) (M M' : Asn) (hq : decide ((1 : Int) ≤ nn) = q)
    (hK : ∀ w, Own w0 F0 (blk g (smO b 1 0 nd n li av wa er an) :: M :: blk b row1 :: L) w → Calls Try.prog 57 #[.pointer (some ⟨g, 0, none⟩), r] w fun e w' => e = .returned (.int .i64 nn) ∧ Own w0 F0 (blk g (smO b 1 0 nd n li av wa' er' an') :: M' :: blk b row1 :: L) w')
    (h : Own w0 F0 (blk g (smO b 1 0 nd n li av wa er an) :: M :: blk b row1 :: L) w) :
    Calls Try.prog 29 #[.pointer (some ⟨g, 0, none⟩), r] w fun e w' => e = .returned (.bool q) ∧ Own w0 F0 (blk g (smO b 1 nn nd n li av wa' er' an') :: M' :: blk b row1 :: L) w' := by
  have HE := Lib.hid (ended_any false (by decide) h)
  have HK := fun w h => Lib.hid (hK w h)
  have fe : ∀ w : World, (binOp .eql 41 (.pointer (some ⟨g, 0, none⟩)) (.pointer none)).run Try.prog w = .ok (.bool false) w := fun w => by kernel_rfl
  have HQ := Lib.hid hq
  clear h hK hq
  go_enter Try.func29, Try.ntmps29
  go_wp2_with fail
  refine HE.out.mono ?_
  rintro e w1 ⟨rfl, h1⟩
  have c0 : w1.cell? ⟨g, 0, none⟩ = some (.slice (some ⟨b, 0, none⟩) 1 1) := h1.cell (i := 0) rfl
  have c1 : w1.cell? ⟨g, 1, none⟩ = some (.int .i64 0) := h1.cell (i := 1) rfl
  have cb : w1.cell? ⟨b, 0, none⟩ = some (.func (Fn.func 57) #[] #[]) := h1.p2.cell (i := 0) rfl
  have cf : w1.frozen? ⟨g, 1, none⟩ = false := h1.unfrozen
  have H1 := Lib.hid (HK _ h1.drew)
  clear HE h1 HK
  go_wp2_with fail
  go_region_with (first | (go_at_call 57; refine H1.out.out.mono ?_; rintro e w4 ⟨rfl, h4⟩; have d1 : w4.cell? ⟨g, 1, none⟩ = some (.int .i64 0) := h4.cell (i := 1) rfl; have df : w4.frozen? ⟨g, 1, none⟩ = false := h4.unfrozen; have H4 : Own w0 F0 (blk g (smO b 1 nn nd n li av wa' er' an') :: M' :: blk b row1 :: L) _ := h4.set 1 (.int .i64 nn); have HE2 := Lib.hid (ended_any q HQ.out H4); clear h4 H4))
  all_goals
    go_wp2_with fail
    refine HE2.out.mono ?_
    rintro e w5 ⟨rfl, h5⟩
    have H5 := Lib.hid h5
    clear h5
    go_wp2_with fail
    go_ret
    exact ⟨rfl, H5.out⟩

set_option maxHeartbeats 1000000 in
theorem shStep_20 (r : Value) (nn wa' er' an' : Int) (q : Bool) (M M' : Asn) (hq : decide ((3 : Int) ≤ nn) = q)
    (hK : ∀ w, Own w0 F0 (blk g (smO b 3 0 nd n li av wa er an) :: M :: blk b row2 :: L) w → Calls Try.prog 55 #[.pointer (some ⟨g, 0, none⟩), r] w fun e w' => e = .returned (.int .i64 nn) ∧ Own w0 F0 (blk g (smO b 3 0 nd n li av wa' er' an') :: M' :: blk b row2 :: L) w')
    (h : Own w0 F0 (blk g (smO b 3 0 nd n li av wa er an) :: M :: blk b row2 :: L) w) :
    Calls Try.prog 29 #[.pointer (some ⟨g, 0, none⟩), r] w fun e w' => e = .returned (.bool q) ∧ Own w0 F0 (blk g (smO b 3 nn nd n li av wa' er' an') :: M' :: blk b row2 :: L) w' := by
  have HE := Lib.hid (ended_any false (by decide) h)
  have HK := fun w h => Lib.hid (hK w h)
  have fe : ∀ w : World, (binOp .eql 41 (.pointer (some ⟨g, 0, none⟩)) (.pointer none)).run Try.prog w = .ok (.bool false) w := fun w => by kernel_rfl
  have HQ := Lib.hid hq
  clear h hK hq
  go_enter Try.func29, Try.ntmps29
  go_wp2_with fail
  refine HE.out.mono ?_
  rintro e w1 ⟨rfl, h1⟩
  have c0 : w1.cell? ⟨g, 0, none⟩ = some (.slice (some ⟨b, 0, none⟩) 3 3) := h1.cell (i := 0) rfl
  have c1 : w1.cell? ⟨g, 1, none⟩ = some (.int .i64 0) := h1.cell (i := 1) rfl
  have cb : w1.cell? ⟨b, 0, none⟩ = some (.func (Fn.func 55) #[] #[]) := h1.p2.cell (i := 0) rfl
  have cf : w1.frozen? ⟨g, 1, none⟩ = false := h1.unfrozen
  have H1 := Lib.hid (HK _ h1.drew)
  clear HE h1 HK
  go_wp2_with fail
  go_region_with (first | (go_at_call 55; refine H1.out.out.mono ?_; rintro e w4 ⟨rfl, h4⟩; have d1 : w4.cell? ⟨g, 1, none⟩ = some (.int .i64 0) := h4.cell (i := 1) rfl; have df : w4.frozen? ⟨g, 1, none⟩ = false := h4.unfrozen; have H4 : Own w0 F0 (blk g (smO b 3 nn nd n li av wa' er' an') :: M' :: blk b row2 :: L) _ := h4.set 1 (.int .i64 nn); have HE2 := Lib.hid (ended_any q HQ.out H4); clear h4 H4))
  all_goals
    go_wp2_with fail
    refine HE2.out.mono ?_
    rintro e w5 ⟨rfl, h5⟩
    have H5 := Lib.hid h5
    clear h5
    go_wp2_with fail
    go_ret
    exact ⟨rfl, H5.out⟩

set_option maxHeartbeats 1000000 in
theorem shStep_21 (r : Value) (nn wa' er' an' : Int) (q : Bool) (M M' : Asn) (hq : decide ((3 : Int) ≤ nn) = q)
    (hK : ∀ w, Own w0 F0 (blk g (smO b 3 1 nd n li av wa er an) :: M :: blk b row2 :: L) w → Calls Try.prog 56 #[.pointer (some ⟨g, 0, none⟩), r] w fun e w' => e = .returned (.int .i64 nn) ∧ Own w0 F0 (blk g (smO b 3 1 nd n li av wa' er' an') :: M' :: blk b row2 :: L) w')
    (h : Own w0 F0 (blk g (smO b 3 1 nd n li av wa er an) :: M :: blk b row2 :: L) w) :
    Calls Try.prog 29 #[.pointer (some ⟨g, 0, none⟩), r] w fun e w' => e = .returned (.bool q) ∧ Own w0 F0 (blk g (smO b 3 nn nd n li av wa' er' an') :: M' :: blk b row2 :: L) w' := by
  have HE := Lib.hid (ended_any false (by decide) h)
  have HK := fun w h => Lib.hid (hK w h)
  have fe : ∀ w : World, (binOp .eql 41 (.pointer (some ⟨g, 0, none⟩)) (.pointer none)).run Try.prog w = .ok (.bool false) w := fun w => by kernel_rfl
  have HQ := Lib.hid hq
  clear h hK hq
  go_enter Try.func29, Try.ntmps29
  go_wp2_with fail
  refine HE.out.mono ?_
  rintro e w1 ⟨rfl, h1⟩
  have c0 : w1.cell? ⟨g, 0, none⟩ = some (.slice (some ⟨b, 0, none⟩) 3 3) := h1.cell (i := 0) rfl
  have c1 : w1.cell? ⟨g, 1, none⟩ = some (.int .i64 1) := h1.cell (i := 1) rfl
  have cb : w1.cell? ⟨b, 1, none⟩ = some (.func (Fn.func 56) #[] #[]) := h1.p2.cell (i := 1) rfl
  have cf : w1.frozen? ⟨g, 1, none⟩ = false := h1.unfrozen
  have H1 := Lib.hid (HK _ h1.drew)
  clear HE h1 HK
  go_wp2_with fail
  go_region_with (first | (go_at_call 56; refine H1.out.out.mono ?_; rintro e w4 ⟨rfl, h4⟩; have d1 : w4.cell? ⟨g, 1, none⟩ = some (.int .i64 1) := h4.cell (i := 1) rfl; have df : w4.frozen? ⟨g, 1, none⟩ = false := h4.unfrozen; have H4 : Own w0 F0 (blk g (smO b 3 nn nd n li av wa' er' an') :: M' :: blk b row2 :: L) _ := h4.set 1 (.int .i64 nn); have HE2 := Lib.hid (ended_any q HQ.out H4); clear h4 H4))
  all_goals
    go_wp2_with fail
    refine HE2.out.mono ?_
    rintro e w5 ⟨rfl, h5⟩
    have H5 := Lib.hid h5
    clear h5
    go_wp2_with fail
    go_ret
    exact ⟨rfl, H5.out⟩

set_option maxHeartbeats 1000000 in
theorem shStep_22 (r : Value) (nn wa' er' an' : Int) (q : Bool) (M M' : Asn) (hq : decide ((3 : Int) ≤ nn) = q)
    (hK : ∀ w, Own w0 F0 (blk g (smO b 3 2 nd n li av wa er an) :: M :: blk b row2 :: L) w → Calls Try.prog 57 #[.pointer (some ⟨g, 0, none⟩), r] w fun e w' => e = .returned (.int .i64 nn) ∧ Own w0 F0 (blk g (smO b 3 2 nd n li av wa' er' an') :: M' :: blk b row2 :: L) w')
    (h : Own w0 F0 (blk g (smO b 3 2 nd n li av wa er an) :: M :: blk b row2 :: L) w) :
    Calls Try.prog 29 #[.pointer (some ⟨g, 0, none⟩), r] w fun e w' => e = .returned (.bool q) ∧ Own w0 F0 (blk g (smO b 3 nn nd n li av wa' er' an') :: M' :: blk b row2 :: L) w' := by
  have HE := Lib.hid (ended_any false (by decide) h)
  have HK := fun w h => Lib.hid (hK w h)
  have fe : ∀ w : World, (binOp .eql 41 (.pointer (some ⟨g, 0, none⟩)) (.pointer none)).run Try.prog w = .ok (.bool false) w := fun w => by kernel_rfl
  have HQ := Lib.hid hq
  clear h hK hq
  go_enter Try.func29, Try.ntmps29
  go_wp2_with fail
  refine HE.out.mono ?_
  rintro e w1 ⟨rfl, h1⟩
  have c0 : w1.cell? ⟨g, 0, none⟩ = some (.slice (some ⟨b, 0, none⟩) 3 3) := h1.cell (i := 0) rfl
  have c1 : w1.cell? ⟨g, 1, none⟩ = some (.int .i64 2) := h1.cell (i := 1) rfl
  have cb : w1.cell? ⟨b, 2, none⟩ = some (.func (Fn.func 57) #[] #[]) := h1.p2.cell (i := 2) rfl
  have cf : w1.frozen? ⟨g, 1, none⟩ = false := h1.unfrozen
  have H1 := Lib.hid (HK _ h1.drew)
  clear HE h1 HK
  go_wp2_with fail
  go_region_with (first | (go_at_call 57; refine H1.out.out.mono ?_; rintro e w4 ⟨rfl, h4⟩; have d1 : w4.cell? ⟨g, 1, none⟩ = some (.int .i64 2) := h4.cell (i := 1) rfl; have df : w4.frozen? ⟨g, 1, none⟩ = false := h4.unfrozen; have H4 : Own w0 F0 (blk g (smO b 3 nn nd n li av wa' er' an') :: M' :: blk b row2 :: L) _ := h4.set 1 (.int .i64 nn); have HE2 := Lib.hid (ended_any q HQ.out H4); clear h4 H4))
  all_goals
    go_wp2_with fail
    refine HE2.out.mono ?_
    rintro e w5 ⟨rfl, h5⟩
    have H5 := Lib.hid h5
    clear h5
    go_wp2_with fail
    go_ret
    exact ⟨rfl, H5.out⟩

set_option maxHeartbeats 1000000 in
theorem shStep_30 (r : Value) (nn wa' er' an' : Int) (q : Bool) (M M' : Asn) (hq : decide ((3 : Int) ≤ nn) = q)
    (hK : ∀ w, Own w0 F0 (blk g (smO b 3 0 nd n li av wa er an) :: M :: blk b row3 :: L) w → Calls Try.prog 58 #[.pointer (some ⟨g, 0, none⟩), r] w fun e w' => e = .returned (.int .i64 nn) ∧ Own w0 F0 (blk g (smO b 3 0 nd n li av wa' er' an') :: M' :: blk b row3 :: L) w')
    (h : Own w0 F0 (blk g (smO b 3 0 nd n li av wa er an) :: M :: blk b row3 :: L) w) :
    Calls Try.prog 29 #[.pointer (some ⟨g, 0, none⟩), r] w fun e w' => e = .returned (.bool q) ∧ Own w0 F0 (blk g (smO b 3 nn nd n li av wa' er' an') :: M' :: blk b row3 :: L) w' := by
  have HE := Lib.hid (ended_any false (by decide) h)
  have HK := fun w h => Lib.hid (hK w h)
  have fe : ∀ w : World, (binOp .eql 41 (.pointer (some ⟨g, 0, none⟩)) (.pointer none)).run Try.prog w = .ok (.bool false) w := fun w => by kernel_rfl
  have HQ := Lib.hid hq
  clear h hK hq
  go_enter Try.func29, Try.ntmps29
  go_wp2_with fail
  refine HE.out.mono ?_
  rintro e w1 ⟨rfl, h1⟩
  have c0 : w1.cell? ⟨g, 0, none⟩ = some (.slice (some ⟨b, 0, none⟩) 3 3) := h1.cell (i := 0) rfl
  have c1 : w1.cell? ⟨g, 1, none⟩ = some (.int .i64 0) := h1.cell (i := 1) rfl
  have cb : w1.cell? ⟨b, 0, none⟩ = some (.func (Fn.func 58) #[] #[]) := h1.p2.cell (i := 0) rfl
  have cf : w1.frozen? ⟨g, 1, none⟩ = false := h1.unfrozen
  have H1 := Lib.hid (HK _ h1.drew)
  clear HE h1 HK
  go_wp2_with fail
  go_region_with (first | (go_at_call 58; refine H1.out.out.mono ?_; rintro e w4 ⟨rfl, h4⟩; have d1 : w4.cell? ⟨g, 1, none⟩ = some (.int .i64 0) := h4.cell (i := 1) rfl; have df : w4.frozen? ⟨g, 1, none⟩ = false := h4.unfrozen; have H4 : Own w0 F0 (blk g (smO b 3 nn nd n li av wa' er' an') :: M' :: blk b row3 :: L) _ := h4.set 1 (.int .i64 nn); have HE2 := Lib.hid (ended_any q HQ.out H4); clear h4 H4))
  all_goals
    go_wp2_with fail
    refine HE2.out.mono ?_
    rintro e w5 ⟨rfl, h5⟩
    have H5 := Lib.hid h5
    clear h5
    go_wp2_with fail
    go_ret
    exact ⟨rfl, H5.out⟩

set_option maxHeartbeats 1000000 in
theorem shStep_31 (r : Value) (nn wa' er' an' : Int) (q : Bool) (M M' : Asn) (hq : decide ((3 : Int) ≤ nn) = q)
    (hK : ∀ w, Own w0 F0 (blk g (smO b 3 1 nd n li av wa er an) :: M :: blk b row3 :: L) w → Calls Try.prog 59 #[.pointer (some ⟨g, 0, none⟩), r] w fun e w' => e = .returned (.int .i64 nn) ∧ Own w0 F0 (blk g (smO b 3 1 nd n li av wa' er' an') :: M' :: blk b row3 :: L) w')
    (h : Own w0 F0 (blk g (smO b 3 1 nd n li av wa er an) :: M :: blk b row3 :: L) w) :
    Calls Try.prog 29 #[.pointer (some ⟨g, 0, none⟩), r] w fun e w' => e = .returned (.bool q) ∧ Own w0 F0 (blk g (smO b 3 nn nd n li av wa' er' an') :: M' :: blk b row3 :: L) w' := by
  have HE := Lib.hid (ended_any false (by decide) h)
  have HK := fun w h => Lib.hid (hK w h)
  have fe : ∀ w : World, (binOp .eql 41 (.pointer (some ⟨g, 0, none⟩)) (.pointer none)).run Try.prog w = .ok (.bool false) w := fun w => by kernel_rfl
  have HQ := Lib.hid hq
  clear h hK hq
  go_enter Try.func29, Try.ntmps29
  go_wp2_with fail
  refine HE.out.mono ?_
  rintro e w1 ⟨rfl, h1⟩
  have c0 : w1.cell? ⟨g, 0, none⟩ = some (.slice (some ⟨b, 0, none⟩) 3 3) := h1.cell (i := 0) rfl
  have c1 : w1.cell? ⟨g, 1, none⟩ = some (.int .i64 1) := h1.cell (i := 1) rfl
  have cb : w1.cell? ⟨b, 1, none⟩ = some (.func (Fn.func 59) #[] #[]) := h1.p2.cell (i := 1) rfl
  have cf : w1.frozen? ⟨g, 1, none⟩ = false := h1.unfrozen
  have H1 := Lib.hid (HK _ h1.drew)
  clear HE h1 HK
  go_wp2_with fail
  go_region_with (first | (go_at_call 59; refine H1.out.out.mono ?_; rintro e w4 ⟨rfl, h4⟩; have d1 : w4.cell? ⟨g, 1, none⟩ = some (.int .i64 1) := h4.cell (i := 1) rfl; have df : w4.frozen? ⟨g, 1, none⟩ = false := h4.unfrozen; have H4 : Own w0 F0 (blk g (smO b 3 nn nd n li av wa' er' an') :: M' :: blk b row3 :: L) _ := h4.set 1 (.int .i64 nn); have HE2 := Lib.hid (ended_any q HQ.out H4); clear h4 H4))
  all_goals
    go_wp2_with fail
    refine HE2.out.mono ?_
    rintro e w5 ⟨rfl, h5⟩
    have H5 := Lib.hid h5
    clear h5
    go_wp2_with fail
    go_ret
    exact ⟨rfl, H5.out⟩

set_option maxHeartbeats 1000000 in
theorem shStep_32 (r : Value) (nn wa' er' an' : Int) (q : Bool) (M M' : Asn) (hq : decide ((3 : Int) ≤ nn) = q)
    (hK : ∀ w, Own w0 F0 (blk g (smO b 3 2 nd n li av wa er an) :: M :: blk b row3 :: L) w → Calls Try.prog 60 #[.pointer (some ⟨g, 0, none⟩), r] w fun e w' => e = .returned (.int .i64 nn) ∧ Own w0 F0 (blk g (smO b 3 2 nd n li av wa' er' an') :: M' :: blk b row3 :: L) w')
    (h : Own w0 F0 (blk g (smO b 3 2 nd n li av wa er an) :: M :: blk b row3 :: L) w) :
    Calls Try.prog 29 #[.pointer (some ⟨g, 0, none⟩), r] w fun e w' => e = .returned (.bool q) ∧ Own w0 F0 (blk g (smO b 3 nn nd n li av wa' er' an') :: M' :: blk b row3 :: L) w' := by
  have HE := Lib.hid (ended_any false (by decide) h)
  have HK := fun w h => Lib.hid (hK w h)
  have fe : ∀ w : World, (binOp .eql 41 (.pointer (some ⟨g, 0, none⟩)) (.pointer none)).run Try.prog w = .ok (.bool false) w := fun w => by kernel_rfl
  have HQ := Lib.hid hq
  clear h hK hq
  go_enter Try.func29, Try.ntmps29
  go_wp2_with fail
  refine HE.out.mono ?_
  rintro e w1 ⟨rfl, h1⟩
  have c0 : w1.cell? ⟨g, 0, none⟩ = some (.slice (some ⟨b, 0, none⟩) 3 3) := h1.cell (i := 0) rfl
  have c1 : w1.cell? ⟨g, 1, none⟩ = some (.int .i64 2) := h1.cell (i := 1) rfl
  have cb : w1.cell? ⟨b, 2, none⟩ = some (.func (Fn.func 60) #[] #[]) := h1.p2.cell (i := 2) rfl
  have cf : w1.frozen? ⟨g, 1, none⟩ = false := h1.unfrozen
  have H1 := Lib.hid (HK _ h1.drew)
  clear HE h1 HK
  go_wp2_with fail
  go_region_with (first | (go_at_call 60; refine H1.out.out.mono ?_; rintro e w4 ⟨rfl, h4⟩; have d1 : w4.cell? ⟨g, 1, none⟩ = some (.int .i64 2) := h4.cell (i := 1) rfl; have df : w4.frozen? ⟨g, 1, none⟩ = false := h4.unfrozen; have H4 : Own w0 F0 (blk g (smO b 3 nn nd n li av wa' er' an') :: M' :: blk b row3 :: L) _ := h4.set 1 (.int .i64 nn); have HE2 := Lib.hid (ended_any q HQ.out H4); clear h4 H4))
  all_goals
    go_wp2_with fail
    refine HE2.out.mono ?_
    rintro e w5 ⟨rfl, h5⟩
    have H5 := Lib.hid h5
    clear h5
    go_wp2_with fail
    go_ret
    exact ⟨rfl, H5.out⟩

end
end Go.Proofs.Ytlkiadionpnijaa
