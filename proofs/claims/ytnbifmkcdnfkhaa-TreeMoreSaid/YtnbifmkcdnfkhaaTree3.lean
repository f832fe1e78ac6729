/- tree.Right of any setting. Written by tools/gen_right.py. -/
import Derived.Test.YtnbifmkcdnfkhaaTree2o
namespace Go.Proofs.Ytnbifmkcdnfkhaa
open Go.ChangeShapes Go.WideShapes Go.ChangeAt Go.RowKit
set_option linter.unusedVariables false
variable {w0 w w' : World} {F0 : Nat → Prop} {L : List Asn}
set_option maxRecDepth 100000 in
set_option maxHeartbeats 1000000 in
theorem Right_no_th (c : Cf) (hw : c.Wf) {vp vl : Value} (hp : IntsAt w .i64 vp c.ps) (hl : IntsAt w .i64 vl c.ls) (h0 : ¬ (Bd 1 8 c.th)) :
    Calls Try.prog 11 #[cfV c vp vl] w fun e w' => e = .returned (.bool false) ∧ Below w.heap.size w w' := by
  obtain ⟨pp, cp, rfl⟩ := hp.slice
  obtain ⟨pl, cl, rfl⟩ := hl.slice
  have HP := Lib.hid hp
  have HL := Lib.hid hl
  clear hp hl
  have HW := Lib.hid hw
  have q0 := hw.pn
  have q1 := hw.ln
  clear hw
  have HO := Lib.hid ((Own.start w).new (cfO c (.slice pp c.ps.length cp) (.slice pl c.ls.length cl)))
  have K0 := Lib.hid h0
  clear h0
  have H0 := fun n hn => Lib.hid (one_noO 1 8 c.th K0.out n (w := w.alloc (cfO c (.slice pp c.ps.length cp) (.slice pl c.ls.length cl))) HO.out hn)
  go_enter Try.func11, Try.ntmps11
  go_wp2_with fail
  refine (H0 (w.heap.size + 1) (by simp)).out.mono ?_
  rintro e w1 ⟨rfl, hO⟩
  have HO1 := Lib.hid hO
  clear hO
  go_wp2_with fail
  go_ret
  exact ⟨rfl, HO1.out.toBelow⟩
set_option maxRecDepth 100000 in
set_option maxHeartbeats 1000000 in
theorem Right_no_st (c : Cf) (hw : c.Wf) {vp vl : Value} (hp : IntsAt w .i64 vp c.ps) (hl : IntsAt w .i64 vl c.ls) (h0 : Bd 1 8 c.th) (h1 : ¬ (Bd 1 8 c.st)) :
    Calls Try.prog 11 #[cfV c vp vl] w fun e w' => e = .returned (.bool false) ∧ Below w.heap.size w w' := by
  obtain ⟨pp, cp, rfl⟩ := hp.slice
  obtain ⟨pl, cl, rfl⟩ := hl.slice
  have HP := Lib.hid hp
  have HL := Lib.hid hl
  clear hp hl
  have HW := Lib.hid hw
  have q0 := hw.pn
  have q1 := hw.ln
  clear hw
  have HO := Lib.hid ((Own.start w).new (cfO c (.slice pp c.ps.length cp) (.slice pl c.ls.length cl)))
  have K0 := Lib.hid h0
  have K1 := Lib.hid h1
  clear h0 h1
  have H0 := fun n hn => Lib.hid (one_yesO 1 8 c.th K0.out n (w := w.alloc (cfO c (.slice pp c.ps.length cp) (.slice pl c.ls.length cl))) HO.out hn)
  go_enter Try.func11, Try.ntmps11
  go_wp2_with fail
  refine (H0 (w.heap.size + 1) (by simp)).out.mono ?_
  rintro e w1 ⟨rfl, hO⟩
  have HO1 := Lib.hid hO
  have d0_1 : w1.cell? ⟨w.heap.size, 1, none⟩ = some (.int .i64 c.st) := hO.cell (i := 1) rfl
  clear hO
  go_wp2_with fail
  refine (one_noO 1 8 c.st K1.out _ HO1.out rfl).mono ?_
  rintro e w2 ⟨rfl, hO⟩
  have HO2 := Lib.hid hO
  clear hO
  go_wp2_with fail
  go_ret
  exact ⟨rfl, HO2.out.toBelow⟩
set_option maxRecDepth 100000 in
set_option maxHeartbeats 1000000 in
theorem Right_no_pow (c : Cf) (hw : c.Wf) {vp vl : Value} (hp : IntsAt w .i64 vp c.ps) (hl : IntsAt w .i64 vl c.ls) (h0 : Bd 1 8 c.th) (h1 : Bd 1 8 c.st) (h2 : ¬ (Pow c.st)) :
    Calls Try.prog 11 #[cfV c vp vl] w fun e w' => e = .returned (.bool false) ∧ Below w.heap.size w w' := by
  obtain ⟨pp, cp, rfl⟩ := hp.slice
  obtain ⟨pl, cl, rfl⟩ := hl.slice
  have HP := Lib.hid hp
  have HL := Lib.hid hl
  clear hp hl
  have HW := Lib.hid hw
  have q0 := hw.pn
  have q1 := hw.ln
  clear hw
  have HO := Lib.hid ((Own.start w).new (cfO c (.slice pp c.ps.length cp) (.slice pl c.ls.length cl)))
  have K0 := Lib.hid h0
  have K1 := Lib.hid h1
  have K2 := Lib.hid h2
  clear h0 h1 h2
  have H0 := fun n hn => Lib.hid (one_yesO 1 8 c.th K0.out n (w := w.alloc (cfO c (.slice pp c.ps.length cp) (.slice pl c.ls.length cl))) HO.out hn)
  go_enter Try.func11, Try.ntmps11
  go_wp2_with fail
  refine (H0 (w.heap.size + 1) (by simp)).out.mono ?_
  rintro e w1 ⟨rfl, hO⟩
  have HO1 := Lib.hid hO
  have d0_1 : w1.cell? ⟨w.heap.size, 1, none⟩ = some (.int .i64 c.st) := hO.cell (i := 1) rfl
  clear hO
  go_wp2_with fail
  refine (one_yesO 1 8 c.st K1.out _ HO1.out rfl).mono ?_
  rintro e w2 ⟨rfl, hO⟩
  have HO2 := Lib.hid hO
  clear d0_1
  have d1_1 : w2.cell? ⟨w.heap.size, 1, none⟩ = some (.int .i64 c.st) := hO.cell (i := 1) rfl
  have d1_2 : w2.cell? ⟨w.heap.size, 2, none⟩ = some (.int .i64 c.ga) := hO.cell (i := 2) rfl
  clear hO
  go_wp2_with fail
  refine (pow_no c.st K1.out.1 K1.out.2 K2.out _).mono ?_
  rintro e w' ⟨rfl, rfl⟩
  go_wp2_with fail
  go_ret
  exact ⟨rfl, HO2.out.toBelow⟩
set_option maxRecDepth 100000 in
set_option maxHeartbeats 1000000 in
theorem Right_no_ga (c : Cf) (hw : c.Wf) {vp vl : Value} (hp : IntsAt w .i64 vp c.ps) (hl : IntsAt w .i64 vl c.ls) (h0 : Bd 1 8 c.th) (h1 : Bd 1 8 c.st) (h2 : Pow c.st) (h3 : ¬ (Bd 1 1048576 c.ga)) :
    Calls Try.prog 11 #[cfV c vp vl] w fun e w' => e = .returned (.bool false) ∧ Below w.heap.size w w' := by
  obtain ⟨pp, cp, rfl⟩ := hp.slice
  obtain ⟨pl, cl, rfl⟩ := hl.slice
  have HP := Lib.hid hp
  have HL := Lib.hid hl
  clear hp hl
  have HW := Lib.hid hw
  have q0 := hw.pn
  have q1 := hw.ln
  clear hw
  have HO := Lib.hid ((Own.start w).new (cfO c (.slice pp c.ps.length cp) (.slice pl c.ls.length cl)))
  have K0 := Lib.hid h0
  have K1 := Lib.hid h1
  have K2 := Lib.hid h2
  have K3 := Lib.hid h3
  clear h0 h1 h2 h3
  have H0 := fun n hn => Lib.hid (one_yesO 1 8 c.th K0.out n (w := w.alloc (cfO c (.slice pp c.ps.length cp) (.slice pl c.ls.length cl))) HO.out hn)
  go_enter Try.func11, Try.ntmps11
  go_wp2_with fail
  refine (H0 (w.heap.size + 1) (by simp)).out.mono ?_
  rintro e w1 ⟨rfl, hO⟩
  have HO1 := Lib.hid hO
  have d0_1 : w1.cell? ⟨w.heap.size, 1, none⟩ = some (.int .i64 c.st) := hO.cell (i := 1) rfl
  clear hO
  go_wp2_with fail
  refine (one_yesO 1 8 c.st K1.out _ HO1.out rfl).mono ?_
  rintro e w2 ⟨rfl, hO⟩
  have HO2 := Lib.hid hO
  clear d0_1
  have d1_1 : w2.cell? ⟨w.heap.size, 1, none⟩ = some (.int .i64 c.st) := hO.cell (i := 1) rfl
  have d1_2 : w2.cell? ⟨w.heap.size, 2, none⟩ = some (.int .i64 c.ga) := hO.cell (i := 2) rfl
  clear hO
  go_wp2_with fail
  refine (pow_yes c.st K2.out _).mono ?_
  rintro e w' ⟨rfl, rfl⟩
  go_wp2_with fail
  refine (one_noO 1 1048576 c.ga K3.out _ HO2.out rfl).mono ?_
  rintro e w4 ⟨rfl, hO⟩
  have HO4 := Lib.hid hO
  clear hO
  go_wp2_with fail
  go_ret
  exact ⟨rfl, HO4.out.toBelow⟩
set_option maxRecDepth 100000 in
set_option maxHeartbeats 1000000 in
theorem Right_no_le (c : Cf) (hw : c.Wf) {vp vl : Value} (hp : IntsAt w .i64 vp c.ps) (hl : IntsAt w .i64 vl c.ls) (h0 : Bd 1 8 c.th) (h1 : Bd 1 8 c.st) (h2 : Pow c.st) (h3 : Bd 1 1048576 c.ga) (h4 : ¬ (Bd 0 1048576 c.le)) :
    Calls Try.prog 11 #[cfV c vp vl] w fun e w' => e = .returned (.bool false) ∧ Below w.heap.size w w' := by
  obtain ⟨pp, cp, rfl⟩ := hp.slice
  obtain ⟨pl, cl, rfl⟩ := hl.slice
  have HP := Lib.hid hp
  have HL := Lib.hid hl
  clear hp hl
  have HW := Lib.hid hw
  have q0 := hw.pn
  have q1 := hw.ln
  clear hw
  have HO := Lib.hid ((Own.start w).new (cfO c (.slice pp c.ps.length cp) (.slice pl c.ls.length cl)))
  have K0 := Lib.hid h0
  have K1 := Lib.hid h1
  have K2 := Lib.hid h2
  have K3 := Lib.hid h3
  have K4 := Lib.hid h4
  clear h0 h1 h2 h3 h4
  have H0 := fun n hn => Lib.hid (one_yesO 1 8 c.th K0.out n (w := w.alloc (cfO c (.slice pp c.ps.length cp) (.slice pl c.ls.length cl))) HO.out hn)
  go_enter Try.func11, Try.ntmps11
  go_wp2_with fail
  refine (H0 (w.heap.size + 1) (by simp)).out.mono ?_
  rintro e w1 ⟨rfl, hO⟩
  have HO1 := Lib.hid hO
  have d0_1 : w1.cell? ⟨w.heap.size, 1, none⟩ = some (.int .i64 c.st) := hO.cell (i := 1) rfl
  clear hO
  go_wp2_with fail
  refine (one_yesO 1 8 c.st K1.out _ HO1.out rfl).mono ?_
  rintro e w2 ⟨rfl, hO⟩
  have HO2 := Lib.hid hO
  clear d0_1
  have d1_1 : w2.cell? ⟨w.heap.size, 1, none⟩ = some (.int .i64 c.st) := hO.cell (i := 1) rfl
  have d1_2 : w2.cell? ⟨w.heap.size, 2, none⟩ = some (.int .i64 c.ga) := hO.cell (i := 2) rfl
  clear hO
  go_wp2_with fail
  refine (pow_yes c.st K2.out _).mono ?_
  rintro e w' ⟨rfl, rfl⟩
  go_wp2_with fail
  refine (one_yesO 1 1048576 c.ga K3.out _ HO2.out rfl).mono ?_
  rintro e w4 ⟨rfl, hO⟩
  have HO4 := Lib.hid hO
  clear d1_1 d1_2
  have d3_3 : w4.cell? ⟨w.heap.size, 3, none⟩ = some (.int .i64 c.le) := hO.cell (i := 3) rfl
  clear hO
  go_wp2_with fail
  refine (one_noO 0 1048576 c.le K4.out _ HO4.out rfl).mono ?_
  rintro e w5 ⟨rfl, hO⟩
  have HO5 := Lib.hid hO
  clear hO
  go_wp2_with fail
  go_ret
  exact ⟨rfl, HO5.out.toBelow⟩
set_option maxRecDepth 100000 in
set_option maxHeartbeats 1000000 in
theorem Right_no_re (c : Cf) (hw : c.Wf) {vp vl : Value} (hp : IntsAt w .i64 vp c.ps) (hl : IntsAt w .i64 vl c.ls) (h0 : Bd 1 8 c.th) (h1 : Bd 1 8 c.st) (h2 : Pow c.st) (h3 : Bd 1 1048576 c.ga) (h4 : Bd 0 1048576 c.le) (h5 : ¬ (Bd 1 8 c.re)) :
    Calls Try.prog 11 #[cfV c vp vl] w fun e w' => e = .returned (.bool false) ∧ Below w.heap.size w w' := by
  obtain ⟨pp, cp, rfl⟩ := hp.slice
  obtain ⟨pl, cl, rfl⟩ := hl.slice
  have HP := Lib.hid hp
  have HL := Lib.hid hl
  clear hp hl
  have HW := Lib.hid hw
  have q0 := hw.pn
  have q1 := hw.ln
  clear hw
  have HO := Lib.hid ((Own.start w).new (cfO c (.slice pp c.ps.length cp) (.slice pl c.ls.length cl)))
  have K0 := Lib.hid h0
  have K1 := Lib.hid h1
  have K2 := Lib.hid h2
  have K3 := Lib.hid h3
  have K4 := Lib.hid h4
  have K5 := Lib.hid h5
  clear h0 h1 h2 h3 h4 h5
  have H0 := fun n hn => Lib.hid (one_yesO 1 8 c.th K0.out n (w := w.alloc (cfO c (.slice pp c.ps.length cp) (.slice pl c.ls.length cl))) HO.out hn)
  go_enter Try.func11, Try.ntmps11
  go_wp2_with fail
  refine (H0 (w.heap.size + 1) (by simp)).out.mono ?_
  rintro e w1 ⟨rfl, hO⟩
  have HO1 := Lib.hid hO
  have d0_1 : w1.cell? ⟨w.heap.size, 1, none⟩ = some (.int .i64 c.st) := hO.cell (i := 1) rfl
  clear hO
  go_wp2_with fail
  refine (one_yesO 1 8 c.st K1.out _ HO1.out rfl).mono ?_
  rintro e w2 ⟨rfl, hO⟩
  have HO2 := Lib.hid hO
  clear d0_1
  have d1_1 : w2.cell? ⟨w.heap.size, 1, none⟩ = some (.int .i64 c.st) := hO.cell (i := 1) rfl
  have d1_2 : w2.cell? ⟨w.heap.size, 2, none⟩ = some (.int .i64 c.ga) := hO.cell (i := 2) rfl
  clear hO
  go_wp2_with fail
  refine (pow_yes c.st K2.out _).mono ?_
  rintro e w' ⟨rfl, rfl⟩
  go_wp2_with fail
  refine (one_yesO 1 1048576 c.ga K3.out _ HO2.out rfl).mono ?_
  rintro e w4 ⟨rfl, hO⟩
  have HO4 := Lib.hid hO
  clear d1_1 d1_2
  have d3_3 : w4.cell? ⟨w.heap.size, 3, none⟩ = some (.int .i64 c.le) := hO.cell (i := 3) rfl
  clear hO
  go_wp2_with fail
  refine (one_yesO 0 1048576 c.le K4.out _ HO4.out rfl).mono ?_
  rintro e w5 ⟨rfl, hO⟩
  have HO5 := Lib.hid hO
  clear d3_3
  have d4_4 : w5.cell? ⟨w.heap.size, 4, none⟩ = some (.int .i64 c.re) := hO.cell (i := 4) rfl
  clear hO
  go_wp2_with fail
  refine (one_noO 1 8 c.re K5.out _ HO5.out rfl).mono ?_
  rintro e w6 ⟨rfl, hO⟩
  have HO6 := Lib.hid hO
  clear hO
  go_wp2_with fail
  go_ret
  exact ⟨rfl, HO6.out.toBelow⟩
end Go.Proofs.Ytnbifmkcdnfkhaa
