/- TreeOrder. Written by tools/gen_order.py. -/
import Derived.Test.YtnbifmkcdnfkhaaTreeIn
namespace Go.Proofs.Ytnbifmkcdnfkhaa
open Go.ChangeShapes Go.WideShapes Go.ChangeAt Go.RowKit Go.Shelf
set_option linter.unusedVariables false
theorem TreeOrder_big (W : World) (c : Cf) (hw : Wide c) {vp vl : Value} (hp : IntsAt W .i64 vp c.ps) (hl : IntsAt W .i64 vl c.ls) (h : 100 < c.ps.length ∨ 100 < c.ls.length) (x : Int) (x0 : 0 ≤ x) (x1 : x ≤ 255) (y : Int) (y0 : 0 ≤ y) (y1 : y ≤ 255) (z : Int) (z0 : 0 ≤ z) (z1 : z ≤ 255) :
    Calls Try.prog 5 #[cfV c vp vl, .int .u8 x, .int .u8 y, .int .u8 z] W fun e w' => e = .returned (.bool true) ∧ Below W.heap.size W w' := by
  obtain ⟨pp, cp, rfl⟩ := hp.slice
  obtain ⟨pl, cl, rfl⟩ := hl.slice
  have Hh := Lib.hid (head_in (St.start W c (.slice pp c.ps.length cp) (.slice pl c.ls.length cl)))
  have HG := fun w => Lib.hid (Great_yes (pp := pp) (pl := pl) (cp := cp) (cl := cl) c hw.pn hw.ln h w)
  clear h hp hl hw
  go_enter Try.func5, Try.ntmps5
  go_wp2_with fail
  refine Hh.out.mono ?_
  rintro e w1 ⟨rfl, hS⟩
  obtain ⟨d0, d1, d2, d3, d4, d5, d6, d7⟩ := hS.cells
  go_wp2_with fail
  refine (HG _).out.mono ?_
  rintro e w2 ⟨rfl, hB⟩
  have HO := Lib.hid (hS.below hB).toBelow
  clear hS hB
  go_wp2_with fail
  go_ret
  exact ⟨rfl, HO.out⟩
theorem TreeOrder_wrong (W : World) (c : Cf) (hw : c.Wf) {vp vl : Value} (hp : IntsAt W .i64 vp c.ps) (hl : IntsAt W .i64 vl c.ls) (h1 : c.ps.length ≤ 100) (h2 : c.ls.length ≤ 100) (h : ¬ c.Rt) (x : Int) (x0 : 0 ≤ x) (x1 : x ≤ 255) (y : Int) (y0 : 0 ≤ y) (y1 : y ≤ 255) (z : Int) (z0 : 0 ≤ z) (z1 : z ≤ 255) :
    Calls Try.prog 5 #[cfV c vp vl, .int .u8 x, .int .u8 y, .int .u8 z] W fun e w' => e = .returned (.bool true) ∧ Below W.heap.size W w' := by
  obtain ⟨pp, cp, rfl⟩ := hp.slice
  obtain ⟨pl, cl, rfl⟩ := hl.slice
  have Hh := Lib.hid (head_in (St.start W c (.slice pp c.ps.length cp) (.slice pl c.ls.length cl)))
  have HG := fun w => Lib.hid (Great_no (pp := pp) (pl := pl) (cp := cp) (cl := cl) c h1 h2 w)
  have HR := fun w (hb : Below W.heap.size W w) => Lib.hid (rRight_any c hw (hp.below hb) (hl.below hb))
  rw [rtB_no h] at HR
  clear h hp hl hw h1 h2
  go_enter Try.func5, Try.ntmps5
  go_wp2_with fail
  refine Hh.out.mono ?_
  rintro e w1 ⟨rfl, hS⟩
  obtain ⟨d0, d1, d2, d3, d4, d5, d6, d7⟩ := hS.cells
  go_wp2_with fail
  refine (HG _).out.mono ?_
  rintro e w2 ⟨rfl, hB⟩
  have hS := hS.below hB
  clear d0 d1 d2 d3 d4 d5 d6 d7
  obtain ⟨d0, d1, d2, d3, d4, d5, d6, d7⟩ := hS.cells
  go_wp2_with fail
  refine (HR _ hS.toBelow).out.mono ?_
  rintro e w3 ⟨rfl, hB⟩
  have HO := Lib.hid (hS.below hB).toBelow
  clear hS hB
  go_wp2_with fail
  go_ret
  exact ⟨rfl, HO.out⟩
set_option maxRecDepth 100000 in
set_option maxHeartbeats 2000000 in
theorem TreeOrder_main (W : World) (c : Cf) {vp vl : Value} (H : Has W c vp vl) (x : Int) (x0 : 0 ≤ x) (x1 : x ≤ 255) (y : Int) (y0 : 0 ≤ y) (y1 : y ≤ 255) (z : Int) (z0 : 0 ≤ z) (z1 : z ≤ 255) :
    Calls Try.prog 5 #[cfV c vp vl, .int .u8 x, .int .u8 y, .int .u8 z] W fun e w' => e = .returned (.bool true) ∧ Below W.heap.size W w' := by
  obtain ⟨pp, cp, rfl⟩ := H.p.slice
  obtain ⟨pl, cl, rfl⟩ := H.l.slice
  have Hh := Lib.hid (head_in (St.start W c (.slice pp c.ps.length cp) (.slice pl c.ls.length cl)))
  have HG := fun w => Lib.hid (Great_no (pp := pp) (pl := pl) (np := c.ps.length) (nl := c.ls.length) (cp := cp) (cl := cl) c (by have := H.rt.n1; omega) (by have := H.rt.n1; have := H.rt.ll; omega) w)
  have HR := fun w (hb : Below W.heap.size W w) => Lib.hid (rRight_any c H.wf (H.p.below hb) (H.l.below hb))
  rw [rtB_yes H.rt] at HR
  have hn0 := H.rt.n0
  have hn1 := H.rt.n1
  obtain ⟨a, ha⟩ : ∃ a : Int, x % (c.ps.length : Int) = a := ⟨_, rfl⟩
  obtain ⟨b, hb⟩ : ∃ b : Int, y % (c.ps.length : Int) = b := ⟨_, rfl⟩
  obtain ⟨d, hd⟩ : ∃ d : Int, z % (c.ps.length : Int) = d := ⟨_, rfl⟩
  have a0 : 0 ≤ a := by rw [← ha]; exact Int.emod_nonneg _ (by omega)
  have b0 : 0 ≤ b := by rw [← hb]; exact Int.emod_nonneg _ (by omega)
  have e0 : 0 ≤ d := by rw [← hd]; exact Int.emod_nonneg _ (by omega)
  have a1 : a < c.ps.length := by rw [← ha]; exact Int.emod_lt_of_pos _ (by omega)
  have b1 : b < c.ps.length := by rw [← hb]; exact Int.emod_lt_of_pos _ (by omega)
  have e1 : d < c.ps.length := by rw [← hd]; exact Int.emod_lt_of_pos _ (by omega)
  have t := H.rt.tr
  have q1 : onB c.ps a a = true := onB_iff.2 (on_self t a a0 (by omega))
  have q2 : onB c.ps a 0 = true := onB_iff.2 (on_root t a (by omega) (by omega) a0)
  have q3 : onB c.ps a c.ps.length = false := by rw [Bool.eq_false_iff]; intro h; have := on_bd t a (by omega) (by omega) c.ps.length (onB_iff.1 h); omega
  have q4 : onB c.ps (-1) a = false := by rw [Bool.eq_false_iff]; intro h; exact on_out (Or.inl (by omega)) (onB_iff.1 h)
  have HAB := Lib.hid (show onB c.ps a b = true → onB c.ps b a = decide (a = b) from fun h => by
    rw [Bool.eq_iff_iff, onB_iff, decide_eq_true_eq]; exact on_anti t a0 (by omega) (onB_iff.1 h))
  have HBD := Lib.hid (show onB c.ps a b = true → onB c.ps b d = true → onB c.ps a d = true from fun h h' => onB_iff.2 (on_trans t b d (onB_iff.1 h') a (by omega) (by omega) (onB_iff.1 h)))
  have HH := Lib.hid H
  clear t H
  go_enter Try.func5, Try.ntmps5
  go_wp2_with fail
  refine Hh.out.mono ?_
  rintro e w1 ⟨rfl, hS⟩
  obtain ⟨d0, d1, d2, d3, d4, d5, d6, d7⟩ := hS.cells
  go_wp2_with fail
  refine (HG _).out.mono ?_
  rintro e w2 ⟨rfl, hB⟩
  have hS := hS.below hB
  clear d0 d1 d2 d3 d4 d5 d6 d7
  obtain ⟨d0, d1, d2, d3, d4, d5, d6, d7⟩ := hS.cells
  go_wp2_with fail
  refine (HR _ hS.toBelow).out.mono ?_
  rintro e w3 ⟨rfl, hB⟩
  have hS := hS.below hB
  clear d0 d1 d2 d3 d4 d5 d6 d7 hB
  obtain ⟨d0, d1, d2, d3, d4, d5, d6, d7⟩ := hS.cells
  by_cases p1 : onB c.ps a b = true
  · have r2 := HAB.out p1
    by_cases e : a = b
    · subst e
      have e2 : (a == a) = true := by simp
      clear r2 p1 HAB
      by_cases p4 : onB c.ps a d = true
      · clear HBD
        go_wp2_with (go_at_call 18; refine (Under_in HH.out _ _ (by assumption)).mono ?_; rintro e w' ⟨rfl, hS⟩; obtain ⟨d0, d1, d2, d3, d4, d5, d6, d7⟩ := hS.cells)
        all_goals (go_ret; exact ⟨rfl, hS.toBelow⟩)
      · have p4 : onB c.ps a d = false := by simpa using p4
        clear HBD
        go_wp2_with (go_at_call 18; refine (Under_in HH.out _ _ (by assumption)).mono ?_; rintro e w' ⟨rfl, hS⟩; obtain ⟨d0, d1, d2, d3, d4, d5, d6, d7⟩ := hS.cells)
        all_goals (go_ret; exact ⟨rfl, hS.toBelow⟩)
    · have p2 : onB c.ps b a = false := by rw [r2]; simpa using e
      have e2 : (a == b) = false := by simpa using e
      clear e r2
      by_cases p4 : onB c.ps b d = true
      · have p5 := HBD.out p1 p4
        clear HAB HBD
        go_wp2_with (go_at_call 18; refine (Under_in HH.out _ _ (by assumption)).mono ?_; rintro e w' ⟨rfl, hS⟩; obtain ⟨d0, d1, d2, d3, d4, d5, d6, d7⟩ := hS.cells)
        all_goals (go_ret; exact ⟨rfl, hS.toBelow⟩)
      · have p4 : onB c.ps b d = false := by simpa using p4
        clear HAB HBD
        go_wp2_with (go_at_call 18; refine (Under_in HH.out _ _ (by assumption)).mono ?_; rintro e w' ⟨rfl, hS⟩; obtain ⟨d0, d1, d2, d3, d4, d5, d6, d7⟩ := hS.cells)
        all_goals (go_ret; exact ⟨rfl, hS.toBelow⟩)
  · have p1 : onB c.ps a b = false := by simpa using p1
    clear HAB HBD
    go_wp2_with (go_at_call 18; refine (Under_in HH.out _ _ (by assumption)).mono ?_; rintro e w' ⟨rfl, hS⟩; obtain ⟨d0, d1, d2, d3, d4, d5, d6, d7⟩ := hS.cells)
    all_goals (go_ret; exact ⟨rfl, hS.toBelow⟩)
theorem TreeOrder_calls (W : World) (c : Cf) (vp vl : Value) (hw : Wide c) (hp : IntsAt W .i64 vp c.ps) (hl : IntsAt W .i64 vl c.ls) (x : Int) (x0 : 0 ≤ x) (x1 : x ≤ 255) (y : Int) (y0 : 0 ≤ y) (y1 : y ≤ 255) (z : Int) (z0 : 0 ≤ z) (z1 : z ≤ 255) :
    Calls Try.prog 5 #[cfV c vp vl, .int .u8 x, .int .u8 y, .int .u8 z] W fun e w' => e = .returned (.bool true) ∧ Below W.heap.size W w' := by
  by_cases h1 : c.ps.length ≤ 100
  · by_cases h2 : c.ls.length ≤ 100
    · have hwf := hw.wf h1 h2
      by_cases hr : c.Rt
      · exact TreeOrder_main W c ⟨hwf, hr, hp, hl⟩ x x0 x1 y y0 y1 z z0 z1
      · exact TreeOrder_wrong W c hwf hp hl h1 h2 hr x x0 x1 y y0 y1 z z0 z1
    · exact TreeOrder_big W c hw hp hl (Or.inr (by omega)) x x0 x1 y y0 y1 z z0 z1
  · exact TreeOrder_big W c hw hp hl (Or.inl (by omega)) x x0 x1 y y0 y1 z z0 z1
end Go.Proofs.Ytnbifmkcdnfkhaa
