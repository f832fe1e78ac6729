/- TreeTells. Written by tools/gen_tells.py. -/
import Derived.Test.YtnbifmkcdnfkhaaTreeIn
import Derived.Deep.RegionHeld3
import Derived.Deep.DeepCutAuto
import Derived.Deep.QuietTactic
import Derived.BigQuiet
import Derived.Lib.QuietBelow
namespace Go.Proofs.Ytnbifmkcdnfkhaa
open Go.ChangeShapes Go.WideShapes Go.ChangeAt Go.RowKit Go.Shelf
set_option linter.unusedVariables false
theorem Right_b {W w : World} {b : Nat} {c : Cf} {vp vl : Value} {L : List Asn} (hw : c.Wf) (hp : IntsAt W .i64 vp c.ps) (hl : IntsAt W .i64 vl c.ls) (h : St W b c vp vl L w) :
    Calls Try.prog 11 #[cfV c vp vl] w fun e w' => e = .returned (.bool (rtB c)) ∧ St W b c vp vl L w' := by
  by_cases hr : c.Rt
  · rw [rtB_yes hr]
    exact (Right_is c hw (hp.below h.toBelow) (hl.below h.toBelow) hr).mono fun _ _ ⟨h1, h2⟩ => ⟨h1, h.below h2⟩
  · rw [rtB_no hr]
    exact (Right_no c hw (hp.below h.toBelow) (hl.below h.toBelow) hr).mono fun _ _ ⟨h1, h2⟩ => ⟨h1, h.below h2⟩
theorem rRight_b {W w : World} {b : Nat} {c : Cf} {vp vl : Value} {L : List Asn} (hw : c.Wf) (hp : IntsAt W .i64 vp c.ps) (hl : IntsAt W .i64 vl c.ls) (h : St W b c vp vl L w) :
    Calls Try.prog 12 #[cfV c vp vl] w fun e w' => e = .returned (.bool (rtB c)) ∧ St W b c vp vl L w' :=
  (rRight_any c hw (hp.below h.toBelow) (hl.below h.toBelow)).mono fun _ _ ⟨h1, h2⟩ => ⟨h1, h.below h2⟩
theorem rRight_no {w : World} {c : Cf} {vp vl : Value} (hw : c.Wf) (hp : IntsAt w .i64 vp c.ps) (hl : IntsAt w .i64 vl c.ls) (h : rtB c = false) :
    Calls Try.prog 12 #[cfV c vp vl] w fun e w' => e = .returned (.bool false) ∧ Below w.heap.size w w' :=
  (rRight_any c hw hp hl).mono fun _ _ ⟨h1, h2⟩ => ⟨h ▸ h1, h2⟩
theorem St.drew {W w : World} {b : Nat} {c : Cf} {vp vl : Value} {L : List Asn} (h : St W b c vp vl L w) : St W b c vp vl L w.drew := Own.drew h
theorem TreeTells_big (W : World) (c : Cf) (hw : Wide c) {vp vl : Value} (hp : IntsAt W .i64 vp c.ps) (hl : IntsAt W .i64 vl c.ls) (h : 100 < c.ps.length ∨ 100 < c.ls.length) (a : Int) (a0 : -9223372036854775808 ≤ a) (a1 : a ≤ 9223372036854775807) (x : Int) (x0 : -9223372036854775808 ≤ x) (x1 : x ≤ 9223372036854775807) :
    Calls Try.prog 3 #[cfV c vp vl, .int .i64 a, .int .i64 x] W fun e w' => e = .returned (.bool true) ∧ Below W.heap.size W w' := by
  obtain ⟨pp, cp, rfl⟩ := hp.slice
  obtain ⟨pl, cl, rfl⟩ := hl.slice
  have Hh := Lib.hid (head_in (St.start W c (.slice pp c.ps.length cp) (.slice pl c.ls.length cl)))
  have HG := fun w => Lib.hid (Great_yes (pp := pp) (pl := pl) (cp := cp) (cl := cl) c hw.pn hw.ln h w)
  clear h hp hl hw
  go_enter Try.func3, Try.ntmps3
  go_wp2_with fail
  refine Hh.out.mono ?_
  rintro e w1 ⟨rfl, hS⟩
  obtain ⟨d0, d1, d2, d3, d4, d5, d6, d7⟩ := hS.cells
  go_wp2_with fail
  refine (HG _).out.mono ?_
  rintro e w2 ⟨rfl, hB⟩
  have HO := Lib.hid (hS.below hB).toBelow
  clear hS hB
  go_wp2_with fail
  go_ret
  exact ⟨rfl, HO.out⟩
set_option maxRecDepth 100000 in
set_option maxHeartbeats 2000000 in
theorem TreeTells_wrong (W : World) (c : Cf) (hw : c.Wf) {vp vl : Value} (hp : IntsAt W .i64 vp c.ps) (hl : IntsAt W .i64 vl c.ls) (h1 : c.ps.length ≤ 100) (h2 : c.ls.length ≤ 100) (h : ¬ c.Rt) (a : Int) (a0 : -9223372036854775808 ≤ a) (a1 : a ≤ 9223372036854775807) (x : Int) (x0 : -9223372036854775808 ≤ x) (x1 : x ≤ 9223372036854775807) :
    Calls Try.prog 3 #[cfV c vp vl, .int .i64 a, .int .i64 x] W fun e w' => e = .returned (.bool true) ∧ Below W.heap.size W w' := by
  obtain ⟨pp, cp, rfl⟩ := hp.slice
  obtain ⟨pl, cl, rfl⟩ := hl.slice
  have Hh := Lib.hid (head_in (St.start W c (.slice pp c.ps.length cp) (.slice pl c.ls.length cl)))
  have HG := fun w => Lib.hid (Great_no (pp := pp) (pl := pl) (np := c.ps.length) (nl := c.ls.length) (cp := cp) (cl := cl) c h1 h2 w)
  have HW := Lib.hid hw
  have HP := Lib.hid hp
  have HL := Lib.hid hl
  have hF : rtB c = false := rtB_no h
  clear h hp hl hw h1 h2
  go_enter Try.func3, Try.ntmps3
  go_wp2_with fail
  refine Hh.out.mono ?_
  rintro e w1 ⟨rfl, hS⟩
  obtain ⟨d0, d1, d2, d3, d4, d5, d6, d7⟩ := hS.cells
  go_wp2_with fail
  refine (HG _).out.mono ?_
  rintro e w2 ⟨rfl, hB⟩
  have hS := hS.below hB
  clear d0 d1 d2 d3 d4 d5 d6 d7
  obtain ⟨d0, d1, d2, d3, d4, d5, d6, d7⟩ := hS.cells
  have hSd := hS.drew
  go_wp2_with fail
  go_region_held3 (fun w' => w'.cell? ⟨W.heap.size, 0, none⟩ = some (.int .i64 c.th) ∧ w'.cell? ⟨W.heap.size, 1, none⟩ = some (.int .i64 c.st) ∧ w'.cell? ⟨W.heap.size, 2, none⟩ = some (.int .i64 c.ga) ∧ w'.cell? ⟨W.heap.size, 3, none⟩ = some (.int .i64 c.le) ∧ w'.cell? ⟨W.heap.size, 4, none⟩ = some (.int .i64 c.re) ∧ w'.cell? ⟨W.heap.size, 5, none⟩ = some (.int .i64 c.ti) ∧ w'.cell? ⟨W.heap.size, 6, none⟩ = some (.slice pp c.ps.length cp) ∧ w'.cell? ⟨W.heap.size, 7, none⟩ = some (.slice pl c.ls.length cl)) (go_keep) (first | (go_at_call 11; refine (Right_b HW.out HP.out HL.out (by assumption)).mono ?_; rintro e w' ⟨rfl, hS⟩; obtain ⟨d0, d1, d2, d3, d4, d5, d6, d7⟩ := hS.cells) | (go_at_call 12; refine (rRight_b HW.out HP.out HL.out (by assumption)).mono ?_; rintro e w' ⟨rfl, hS⟩; obtain ⟨d0, d1, d2, d3, d4, d5, d6, d7⟩ := hS.cells))
  all_goals
    clear hSd
    go_wp2_with fail
    have k0 := cell_regrown d0
    have k1 := cell_regrown d1
    have k2 := cell_regrown d2
    have k3 := cell_regrown d3
    have k4 := cell_regrown d4
    have k5 := cell_regrown d5
    have k6 := cell_regrown d6
    have k7 := cell_regrown d7
    clear d0 d1 d2 d3 d4 d5 d6 d7
    have hC := fun d os => Calls.regrown_of (rRight_no HW.out (HP.out.below (hS.below (below_regrown _ d os)).toBelow) (HL.out.below (hS.below (below_regrown _ d os)).toBelow) hF)
    have HO := Lib.hid hS
    clear hS
    refine wp_region_quiet_below (by kernel_rfl) (by kernel_rfl) ?_
    repeat (go_big_quiet_step ((go_at_call 12; exact hC _ _)))
    refine wpQuiet_nil ?_
    intro _ hw'
    obtain ⟨⟨dq, osq⟩, hw''⟩ := hw'
    subst hw''
    clear k0 k1 k2 k3 k4 k5 k6 k7
    go_wp2_with fail
    go_ret
    exact ⟨rfl, (HO.out.below (below_regrown _ dq osq)).toBelow⟩
theorem Same_12 {W w : World} {b : Nat} {c : Cf} {vp vl : Value} {p1 p2 : Option Addr} {cap1 cap2 : Nat} {xs : List Int} (hn : xs.length ≤ 1000000)
    (h : StP W b c vp vl [row (.slice p1 xs.length cap1) 3 1 xs.length (intC xs)] p2 cap2 xs w) :
    Calls Try.prog 13 #[.slice p1 xs.length cap1, .slice p2 xs.length cap2] w fun e w' => e = .returned (.bool true) ∧ St W b c vp vl [] w' :=
  (SameInts_yes (StP.ints (L := []) (h.row.drop : St W b c vp vl _ w)) h.ints hn).mono fun _ _ ⟨h1, h2⟩ => ⟨h1, (StP.drop (L := []) (h.drop : St W b c vp vl _ w)).below h2.below⟩
theorem Same_21 {W w : World} {b : Nat} {c : Cf} {vp vl : Value} {p1 p2 : Option Addr} {cap1 cap2 : Nat} {xs : List Int} (hn : xs.length ≤ 1000000)
    (h : StP W b c vp vl [row (.slice p1 xs.length cap1) 3 1 xs.length (intC xs)] p2 cap2 xs w) :
    Calls Try.prog 13 #[.slice p2 xs.length cap2, .slice p1 xs.length cap1] w fun e w' => e = .returned (.bool true) ∧ St W b c vp vl [] w' :=
  (SameInts_yes h.ints (StP.ints (L := []) (h.row.drop : St W b c vp vl _ w)) hn).mono fun _ _ ⟨h1, h2⟩ => ⟨h1, (StP.drop (L := []) (h.drop : St W b c vp vl _ w)).below h2.below⟩
set_option maxRecDepth 100000 in
set_option maxHeartbeats 4000000 in
theorem TreeTells_main (W : World) (c : Cf) {vp vl : Value} (H : Has W c vp vl) (a : Int) (a0 : -9223372036854775808 ≤ a) (a1 : a ≤ 9223372036854775807) (x : Int) (x0 : -9223372036854775808 ≤ x) (x1 : x ≤ 9223372036854775807) :
    Calls Try.prog 3 #[cfV c vp vl, .int .i64 a, .int .i64 x] W fun e w' => e = .returned (.bool true) ∧ Below W.heap.size W w' := by
  obtain ⟨pp, cp, rfl⟩ := H.p.slice
  obtain ⟨pl, cl, rfl⟩ := H.l.slice
  have Hh := Lib.hid (head_in (St.start W c (.slice pp c.ps.length cp) (.slice pl c.ls.length cl)))
  have HG := fun w => Lib.hid (Great_no (pp := pp) (pl := pl) (np := c.ps.length) (nl := c.ls.length) (cp := cp) (cl := cl) c (by have := H.rt.n1; omega) (by have := H.rt.n1; have := H.rt.ll; omega) w)
  have HW := Lib.hid H.wf
  have HP := Lib.hid H.p
  have HL := Lib.hid H.l
  have HN := Lib.hid (show (path c.ps a).length ≤ 1000000 by have := path_len12 H.rt.tr a; omega)
  have hF : rtB c = true := rtB_yes H.rt
  have HH := Lib.hid H
  clear H
  go_enter Try.func3, Try.ntmps3
  go_wp2_with fail
  refine Hh.out.mono ?_
  rintro e w1 ⟨rfl, hS⟩
  obtain ⟨d0, d1, d2, d3, d4, d5, d6, d7⟩ := hS.cells
  go_wp2_with fail
  refine (HG _).out.mono ?_
  rintro e w2 ⟨rfl, hB⟩
  have hS := hS.below hB
  clear d0 d1 d2 d3 d4 d5 d6 d7
  obtain ⟨d0, d1, d2, d3, d4, d5, d6, d7⟩ := hS.cells
  have hSd := hS.drew
  go_wp2_with fail
  go_region_held3 (fun w' => w'.cell? ⟨W.heap.size, 0, none⟩ = some (.int .i64 c.th) ∧ w'.cell? ⟨W.heap.size, 1, none⟩ = some (.int .i64 c.st) ∧ w'.cell? ⟨W.heap.size, 2, none⟩ = some (.int .i64 c.ga) ∧ w'.cell? ⟨W.heap.size, 3, none⟩ = some (.int .i64 c.le) ∧ w'.cell? ⟨W.heap.size, 4, none⟩ = some (.int .i64 c.re) ∧ w'.cell? ⟨W.heap.size, 5, none⟩ = some (.int .i64 c.ti) ∧ w'.cell? ⟨W.heap.size, 6, none⟩ = some (.slice pp c.ps.length cp) ∧ w'.cell? ⟨W.heap.size, 7, none⟩ = some (.slice pl c.ls.length cl)) (go_keep) (first | (go_at_call 11; refine (Right_b HW.out HP.out HL.out (by assumption)).mono ?_; rintro e w' ⟨rfl, hS⟩; obtain ⟨d0, d1, d2, d3, d4, d5, d6, d7⟩ := hS.cells) | (go_at_call 12; refine (rRight_b HW.out HP.out HL.out (by assumption)).mono ?_; rintro e w' ⟨rfl, hS⟩; obtain ⟨d0, d1, d2, d3, d4, d5, d6, d7⟩ := hS.cells))
  all_goals
    clear hSd
    have hSd := (by assumption : St W W.heap.size c (.slice pp c.ps.length cp) (.slice pl c.ls.length cl) [] _).drew
    go_wp2_with fail
    go_region_held3 (fun w' => w'.cell? ⟨W.heap.size, 0, none⟩ = some (.int .i64 c.th) ∧ w'.cell? ⟨W.heap.size, 1, none⟩ = some (.int .i64 c.st) ∧ w'.cell? ⟨W.heap.size, 2, none⟩ = some (.int .i64 c.ga) ∧ w'.cell? ⟨W.heap.size, 3, none⟩ = some (.int .i64 c.le) ∧ w'.cell? ⟨W.heap.size, 4, none⟩ = some (.int .i64 c.re) ∧ w'.cell? ⟨W.heap.size, 5, none⟩ = some (.int .i64 c.ti) ∧ w'.cell? ⟨W.heap.size, 6, none⟩ = some (.slice pp c.ps.length cp) ∧ w'.cell? ⟨W.heap.size, 7, none⟩ = some (.slice pl c.ls.length cl)) (go_keep) (first | (go_at_call 14; refine (Path_in HH.out _ (by assumption)).mono ?_; rintro e w' ⟨p, cap, rfl, hS⟩; obtain ⟨d0, d1, d2, d3, d4, d5, d6, d7⟩ := hS.cells) | (go_at_call 15; refine (rPath_in HH.out _ (by assumption)).mono ?_; rintro e w' ⟨p, cap, rfl, hS⟩; obtain ⟨d0, d1, d2, d3, d4, d5, d6, d7⟩ := hS.cells) | (go_at_call 13; refine (Same_12 HN.out (by assumption)).mono ?_; rintro e w' ⟨rfl, hS⟩; obtain ⟨d0, d1, d2, d3, d4, d5, d6, d7⟩ := hS.cells) | (go_at_call 13; refine (Same_21 HN.out (by assumption)).mono ?_; rintro e w' ⟨rfl, hS⟩; obtain ⟨d0, d1, d2, d3, d4, d5, d6, d7⟩ := hS.cells) | (go_at_call 16; refine (Depth_in HH.out (by assumption)).mono ?_; rintro e w' ⟨rfl, hS⟩; obtain ⟨d0, d1, d2, d3, d4, d5, d6, d7⟩ := hS.cells) | (go_at_call 17; refine (rDepth_in HH.out (by assumption)).mono ?_; rintro e w' ⟨rfl, hS⟩; obtain ⟨d0, d1, d2, d3, d4, d5, d6, d7⟩ := hS.cells) | (go_at_call 18; refine (Under_in HH.out _ _ (by assumption)).mono ?_; rintro e w' ⟨rfl, hS⟩; obtain ⟨d0, d1, d2, d3, d4, d5, d6, d7⟩ := hS.cells) | (go_at_call 19; refine (rUnder_in HH.out _ _ (by assumption)).mono ?_; rintro e w' ⟨rfl, hS⟩; obtain ⟨d0, d1, d2, d3, d4, d5, d6, d7⟩ := hS.cells) | (go_at_call 20; refine (Leaf_in HH.out _ (by assumption)).mono ?_; rintro e w' ⟨rfl, hS⟩; obtain ⟨d0, d1, d2, d3, d4, d5, d6, d7⟩ := hS.cells) | (go_at_call 21; refine (rLeaf_in HH.out _ (by assumption)).mono ?_; rintro e w' ⟨rfl, hS⟩; obtain ⟨d0, d1, d2, d3, d4, d5, d6, d7⟩ := hS.cells) | (go_at_call 12; refine (rRight_b HW.out HP.out HL.out (by assumption)).mono ?_; rintro e w' ⟨rfl, hS⟩; obtain ⟨d0, d1, d2, d3, d4, d5, d6, d7⟩ := hS.cells))
  all_goals
    have HO := Lib.hid (by assumption : St W W.heap.size c (.slice pp c.ps.length cp) (.slice pl c.ls.length cl) [] _).toBelow
    clear hSd
    go_wp2_with fail
    go_ret
    exact ⟨rfl, HO.out⟩
theorem TreeTells_calls (W : World) (c : Cf) (vp vl : Value) (hw : Wide c) (hp : IntsAt W .i64 vp c.ps) (hl : IntsAt W .i64 vl c.ls) (a : Int) (a0 : -9223372036854775808 ≤ a) (a1 : a ≤ 9223372036854775807) (x : Int) (x0 : -9223372036854775808 ≤ x) (x1 : x ≤ 9223372036854775807) :
    Calls Try.prog 3 #[cfV c vp vl, .int .i64 a, .int .i64 x] W fun e w' => e = .returned (.bool true) ∧ Below W.heap.size W w' := by
  by_cases h1 : c.ps.length ≤ 100
  · by_cases h2 : c.ls.length ≤ 100
    · have hwf := hw.wf h1 h2
      by_cases hr : c.Rt
      · exact TreeTells_main W c ⟨hwf, hr, hp, hl⟩ a a0 a1 x x0 x1
      · exact TreeTells_wrong W c hwf hp hl h1 h2 hr a a0 a1 x x0 x1
    · exact TreeTells_big W c hw hp hl (Or.inr (by omega)) a a0 a1 x x0 x1
  · exact TreeTells_big W c hw hp hl (Or.inl (by omega)) a a0 a1 x x0 x1
end Go.Proofs.Ytnbifmkcdnfkhaa
