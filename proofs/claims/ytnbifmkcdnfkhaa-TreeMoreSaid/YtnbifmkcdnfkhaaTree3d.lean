/- tree.Right of any setting. Written by tools/gen_right.py. -/
import Derived.Test.YtnbifmkcdnfkhaaTree2o
namespace Go.Proofs.Ytnbifmkcdnfkhaa
open Go.ChangeShapes Go.WideShapes Go.ChangeAt Go.RowKit
set_option linter.unusedVariables false
variable {w0 w w' : World} {F0 : Nat → Prop} {L : List Asn}
set_option maxRecDepth 100000 in
set_option maxHeartbeats 1000000 in
theorem Right_yes (c : Cf) (hw : c.Wf) {vp vl : Value} (hp : IntsAt w .i64 vp c.ps) (hl : IntsAt w .i64 vl c.ls) (h0 : Bd 1 8 c.th) (h1 : Bd 1 8 c.st) (h2 : Pow c.st) (h3 : Bd 1 1048576 c.ga) (h4 : Bd 0 1048576 c.le) (h5 : Bd 1 8 c.re) (h6 : Bd 1 16 c.ti) (h7 : Bd 1 12 (c.ps.length : Int)) (h8 : Grown c.ps) (h9 : c.ls.length = c.ps.length) (h10 : AllIn 0 1099511627776 c.ls) :
    Calls Try.prog 11 #[cfV c vp vl] w fun e w' => e = .returned (.bool true) ∧ Below w.heap.size w w' := by
  obtain ⟨pp, cp, rfl⟩ := hp.slice
  obtain ⟨pl, cl, rfl⟩ := hl.slice
  have HP := Lib.hid hp
  have HL := Lib.hid hl
  clear hp hl
  have HW := Lib.hid hw
  have q0 := hw.pn
  have q1 := hw.ln
  clear hw
  have HO := Lib.hid ((Own.start w).new (cfO c (.slice pp c.ps.length cp) (.slice pl c.ls.length cl)))
  have K0 := Lib.hid h0
  have K1 := Lib.hid h1
  have K2 := Lib.hid h2
  have K3 := Lib.hid h3
  have K4 := Lib.hid h4
  have K5 := Lib.hid h5
  have K6 := Lib.hid h6
  have K7 := Lib.hid h7
  have K8 := Lib.hid h8
  have K9 := Lib.hid h9
  have K10 := Lib.hid h10
  clear h0 h1 h2 h3 h4 h5 h6 h7 h8 h9 h10
  have H0 := fun n hn => Lib.hid (one_yesO 1 8 c.th K0.out n (w := w.alloc (cfO c (.slice pp c.ps.length cp) (.slice pl c.ls.length cl))) HO.out hn)
  have hF : ((c.ls.length : Int) == (c.ps.length : Int)) = true := by rw [beq_iff_eq]; have := K9.out; omega
  go_enter Try.func11, Try.ntmps11
  go_wp2_with fail
  refine (H0 (w.heap.size + 1) (by simp)).out.mono ?_
  rintro e w1 ⟨rfl, hO⟩
  have HO1 := Lib.hid hO
  have d0_1 : w1.cell? ⟨w.heap.size, 1, none⟩ = some (.int .i64 c.st) := hO.cell (i := 1) rfl
  clear hO
  go_wp2_with fail
  refine (one_yesO 1 8 c.st K1.out _ HO1.out rfl).mono ?_
  rintro e w2 ⟨rfl, hO⟩
  have HO2 := Lib.hid hO
  clear d0_1
  have d1_1 : w2.cell? ⟨w.heap.size, 1, none⟩ = some (.int .i64 c.st) := hO.cell (i := 1) rfl
  have d1_2 : w2.cell? ⟨w.heap.size, 2, none⟩ = some (.int .i64 c.ga) := hO.cell (i := 2) rfl
  clear hO
  go_wp2_with fail
  refine (pow_yes c.st K2.out _).mono ?_
  rintro e w' ⟨rfl, rfl⟩
  go_wp2_with fail
  refine (one_yesO 1 1048576 c.ga K3.out _ HO2.out rfl).mono ?_
  rintro e w4 ⟨rfl, hO⟩
  have HO4 := Lib.hid hO
  clear d1_1 d1_2
  have d3_3 : w4.cell? ⟨w.heap.size, 3, none⟩ = some (.int .i64 c.le) := hO.cell (i := 3) rfl
  clear hO
  go_wp2_with fail
  refine (one_yesO 0 1048576 c.le K4.out _ HO4.out rfl).mono ?_
  rintro e w5 ⟨rfl, hO⟩
  have HO5 := Lib.hid hO
  clear d3_3
  have d4_4 : w5.cell? ⟨w.heap.size, 4, none⟩ = some (.int .i64 c.re) := hO.cell (i := 4) rfl
  clear hO
  go_wp2_with fail
  refine (one_yesO 1 8 c.re K5.out _ HO5.out rfl).mono ?_
  rintro e w6 ⟨rfl, hO⟩
  have HO6 := Lib.hid hO
  clear d4_4
  have d5_5 : w6.cell? ⟨w.heap.size, 5, none⟩ = some (.int .i64 c.ti) := hO.cell (i := 5) rfl
  clear hO
  go_wp2_with fail
  refine (one_yesO 1 16 c.ti K6.out _ HO6.out rfl).mono ?_
  rintro e w7 ⟨rfl, hO⟩
  have HO7 := Lib.hid hO
  clear d5_5
  have d6_6 : w7.cell? ⟨w.heap.size, 6, none⟩ = some (Value.slice pp c.ps.length cp) := hO.cell (i := 6) rfl
  clear hO
  go_wp2_with fail
  refine (one_yesO 1 12 (c.ps.length : Int) K7.out _ HO7.out rfl).mono ?_
  rintro e w8 ⟨rfl, hO⟩
  have HO8 := Lib.hid hO
  clear d6_6
  have d7_6 : w8.cell? ⟨w.heap.size, 6, none⟩ = some (Value.slice pp c.ps.length cp) := hO.cell (i := 6) rfl
  clear hO
  go_wp2_with fail
  refine (grown_yes (HP.out.below HO8.out.toBelow) HW.out.pn (by have := K7.out.1; omega) K8.out HW.out.pb).mono ?_
  rintro e w9 ⟨rfl, hB⟩
  have HO9 := Lib.hid (HO8.out.below hB)
  clear hB
  clear d7_6
  have d8_6 : w9.cell? ⟨w.heap.size, 6, none⟩ = some (Value.slice pp c.ps.length cp) := HO9.out.cell (i := 6) rfl
  have d8_7 : w9.cell? ⟨w.heap.size, 7, none⟩ = some (Value.slice pl c.ls.length cl) := HO9.out.cell (i := 7) rfl
  go_wp2_with fail
  refine (within_yes 0 1099511627776 (HL.out.below HO9.out.toBelow) HW.out.ln K10.out).mono ?_
  rintro e w' ⟨rfl, rfl⟩
  go_wp2_with fail
  go_ret
  exact ⟨rfl, HO9.out.toBelow⟩
end Go.Proofs.Ytnbifmkcdnfkhaa
