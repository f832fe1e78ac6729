/- TreePath. Written by tools/gen_path.py. -/
import Derived.Test.YtnbifmkcdnfkhaaTreeIn
import Derived.Deep.QuietTactic
import Derived.BigQuiet
import Derived.IntWalk
namespace Go.Proofs.Ytnbifmkcdnfkhaa
open Go.ChangeShapes Go.WideShapes Go.ChangeAt Go.RowKit Go.Shelf
set_option linter.unusedVariables false
theorem TreePath_big (W : World) (c : Cf) (hw : Wide c) {vp vl : Value} (hp : IntsAt W .i64 vp c.ps) (hl : IntsAt W .i64 vl c.ls) (h : 100 < c.ps.length ∨ 100 < c.ls.length) (x : Int) (x0 : 0 ≤ x) (x1 : x ≤ 255) :
    Calls Try.prog 4 #[cfV c vp vl, .int .u8 x] W fun e w' => e = .returned (.bool true) ∧ Below W.heap.size W w' := by
  obtain ⟨pp, cp, rfl⟩ := hp.slice
  obtain ⟨pl, cl, rfl⟩ := hl.slice
  have Hh := Lib.hid (head_in (St.start W c (.slice pp c.ps.length cp) (.slice pl c.ls.length cl)))
  have HG := fun w => Lib.hid (Great_yes (pp := pp) (pl := pl) (cp := cp) (cl := cl) c hw.pn hw.ln h w)
  clear h hp hl hw
  go_enter Try.func4, Try.ntmps4
  go_wp2_with fail
  refine Hh.out.mono ?_
  rintro e w1 ⟨rfl, hS⟩
  obtain ⟨d0, d1, d2, d3, d4, d5, d6, d7⟩ := hS.cells
  go_wp2_with fail
  refine (HG _).out.mono ?_
  rintro e w2 ⟨rfl, hB⟩
  have HO := Lib.hid (hS.below hB).toBelow
  clear hS hB
  go_wp2_with fail
  go_ret
  exact ⟨rfl, HO.out⟩
theorem TreePath_wrong (W : World) (c : Cf) (hw : c.Wf) {vp vl : Value} (hp : IntsAt W .i64 vp c.ps) (hl : IntsAt W .i64 vl c.ls) (h1 : c.ps.length ≤ 100) (h2 : c.ls.length ≤ 100) (h : ¬ c.Rt) (x : Int) (x0 : 0 ≤ x) (x1 : x ≤ 255) :
    Calls Try.prog 4 #[cfV c vp vl, .int .u8 x] W fun e w' => e = .returned (.bool true) ∧ Below W.heap.size W w' := by
  obtain ⟨pp, cp, rfl⟩ := hp.slice
  obtain ⟨pl, cl, rfl⟩ := hl.slice
  have Hh := Lib.hid (head_in (St.start W c (.slice pp c.ps.length cp) (.slice pl c.ls.length cl)))
  have HG := fun w => Lib.hid (Great_no (pp := pp) (pl := pl) (cp := cp) (cl := cl) c h1 h2 w)
  have HR := fun w (hb : Below W.heap.size W w) => Lib.hid (rRight_any c hw (hp.below hb) (hl.below hb))
  rw [rtB_no h] at HR
  clear h hp hl hw h1 h2
  go_enter Try.func4, Try.ntmps4
  go_wp2_with fail
  refine Hh.out.mono ?_
  rintro e w1 ⟨rfl, hS⟩
  obtain ⟨d0, d1, d2, d3, d4, d5, d6, d7⟩ := hS.cells
  go_wp2_with fail
  refine (HG _).out.mono ?_
  rintro e w2 ⟨rfl, hB⟩
  have hS := hS.below hB
  clear d0 d1 d2 d3 d4 d5 d6 d7
  obtain ⟨d0, d1, d2, d3, d4, d5, d6, d7⟩ := hS.cells
  go_wp2_with fail
  refine (HR _ hS.toBelow).out.mono ?_
  rintro e w3 ⟨rfl, hB⟩
  have HO := Lib.hid (hS.below hB).toBelow
  clear hS hB
  go_wp2_with fail
  go_ret
  exact ⟨rfl, HO.out⟩
theorem StP.drewN {W w : World} {b : Nat} {c : Cf} {vp vl : Value} {L : List Asn} {p : Option Addr} {cap : Nat} {xs : List Int} (h : StP W b c vp vl L p cap xs w) (n : Nat) : StP W b c vp vl L p cap xs (w.drewN n) := Own.drewN h n
theorem StP.toBelow {W w : World} {b : Nat} {c : Cf} {vp vl : Value} {L : List Asn} {p : Option Addr} {cap : Nat} {xs : List Int} (h : StP W b c vp vl L p cap xs w) : Below W.heap.size W w := Own.toBelow h
theorem StP.cells {W w : World} {b : Nat} {c : Cf} {vp vl : Value} {L : List Asn} {p : Option Addr} {cap : Nat} {xs : List Int} (h : StP W b c vp vl L p cap xs w) : w.cell? ⟨b, 0, none⟩ = some (.int .i64 c.th) ∧ w.cell? ⟨b, 1, none⟩ = some (.int .i64 c.st) ∧ w.cell? ⟨b, 2, none⟩ = some (.int .i64 c.ga) ∧ w.cell? ⟨b, 3, none⟩ = some (.int .i64 c.le) ∧ w.cell? ⟨b, 4, none⟩ = some (.int .i64 c.re) ∧ w.cell? ⟨b, 5, none⟩ = some (.int .i64 c.ti) ∧ w.cell? ⟨b, 6, none⟩ = some vp ∧ w.cell? ⟨b, 7, none⟩ = some vl := St.cells h
theorem dep_ge {ps : List Int} {v : Int} (h0 : 0 ≤ v) (h1 : v < ps.length) : (path ps v).length ≤ dep ps := by
  have := depK_ge ps ps.length v.toNat (by omega)
  rwa [show ((v.toNat : Nat) : Int) = v by omega] at this
set_option maxRecDepth 100000 in
set_option maxHeartbeats 2000000 in
theorem TreePath_main (W : World) (c : Cf) {vp vl : Value} (H : Has W c vp vl) (x : Int) (x0 : 0 ≤ x) (x1 : x ≤ 255) :
    Calls Try.prog 4 #[cfV c vp vl, .int .u8 x] W fun e w' => e = .returned (.bool true) ∧ Below W.heap.size W w' := by
  obtain ⟨pp, cp, rfl⟩ := H.p.slice
  obtain ⟨pl, cl, rfl⟩ := H.l.slice
  have Hh := Lib.hid (head_in (St.start W c (.slice pp c.ps.length cp) (.slice pl c.ls.length cl)))
  have HG := fun w => Lib.hid (Great_no (pp := pp) (pl := pl) (np := c.ps.length) (nl := c.ls.length) (cp := cp) (cl := cl) c (by have := H.rt.n1; omega) (by have := H.rt.n1; have := H.rt.ll; omega) w)
  have HR := fun w (hb : Below W.heap.size W w) => Lib.hid (rRight_any c H.wf (H.p.below hb) (H.l.below hb))
  rw [rtB_yes H.rt] at HR
  have hn0 := H.rt.n0
  have hn1 := H.rt.n1
  obtain ⟨a, ha⟩ : ∃ a : Int, x % (c.ps.length : Int) = a := ⟨_, rfl⟩
  have a0 : 0 ≤ a := by rw [← ha]; exact Int.emod_nonneg _ (by omega)
  have a1 : a < c.ps.length := by rw [← ha]; exact Int.emod_lt_of_pos _ (by omega)
  have t := H.rt.tr
  have HD := Lib.hid (dep_ge (ps := c.ps) a0 a1)
  have HDm := Lib.hid (depK_le t c.ps.length)
  have HX := Lib.hid (path_next t a (by omega) a1)
  have HZ := Lib.hid (path_zero t a a0 a1)
  have HE := Lib.hid (path_last t a (by omega) a1 a0)
  have hl12 := path_len12 t a
  have hpos := path_pos t a a0 a1
  obtain ⟨gb, goff, gcap, he, hgb⟩ := H.p.at (by omega)
  injection he with he1 he2 he3
  subst he1
  have HG2 := Lib.hid hgb
  have HH := Lib.hid H
  clear t H he2 he3 hgb
  go_enter Try.func4, Try.ntmps4
  go_wp2_with fail
  refine Hh.out.mono ?_
  rintro e w1 ⟨rfl, hS⟩
  obtain ⟨d0, d1, d2, d3, d4, d5, d6, d7⟩ := hS.cells
  go_wp2_with fail
  refine (HG _).out.mono ?_
  rintro e w2 ⟨rfl, hB⟩
  have hS := hS.below hB
  clear d0 d1 d2 d3 d4 d5 d6 d7
  obtain ⟨d0, d1, d2, d3, d4, d5, d6, d7⟩ := hS.cells
  go_wp2_with fail
  refine (HR _ hS.toBelow).out.mono ?_
  rintro e w3 ⟨rfl, hB⟩
  have hS := hS.below hB
  clear d0 d1 d2 d3 d4 d5 d6 d7 hB
  obtain ⟨d0, d1, d2, d3, d4, d5, d6, d7⟩ := hS.cells
  go_wp2_with fail
  refine (Path_in HH.out _ (by assumption)).mono ?_
  rintro e w4 ⟨p, cap, rfl, hP⟩
  have hI := hP.ints
  clear d0 d1 d2 d3 d4 d5 d6 d7 hS
  obtain ⟨d0, d1, d2, d3, d4, d5, d6, d7⟩ := hP.cells
  generalize path c.ps a = xs at *
  obtain ⟨g, off, cap', he, hb⟩ := hI.at hpos
  injection he with he1 he2 he3
  subst he1
  obtain ⟨m, hm⟩ : ∃ m, xs.length = m + 1 := ⟨xs.length - 1, by omega⟩
  have c0 := hb 0 hpos
  have cm := hb m (by omega)
  rw [show xs.getD 0 0 = a by rw [← HZ.out]; simp [List.getD, hpos]] at c0
  rw [Nat.add_zero] at c0
  rw [show xs.getD m 0 = 0 by rw [show (0 : Int) = xs.getD (xs.length - 1) (-1) from HE.out.symm, hm]; simp [List.getD, hm]] at cm
  have HM := Lib.hid hm
  have Hb := Lib.hid hb
  have HP := Lib.hid hP
  rw [hm] at hl12 HD ⊢
  have hF1 : (((m : Int) + 1) == 0) = false := by rw [beq_eq_false_iff_ne]; omega
  have hF2 : ((0 : Int) != 0) = false := by decide
  have hF3 : (a != a) = false := by simp
  have hD1 : m + 1 ≤ dep c.ps := HD.out
  have hD2 : dep c.ps ≤ 12 := HDm.out
  have hF4 : decide ((dep c.ps : Int) < (m : Int) + 1) = false := by simp; omega
  clear he2 he3 hb hP hI hm hpos HZ HE
  go_wp2_with fail
  refine (Depth_in HH.out HP.out).mono ?_
  rintro e w5 ⟨rfl, hS⟩
  have HP5 := Lib.hid (show StP W W.heap.size c (.slice (some ⟨gb, goff, none⟩) c.ps.length cp) (.slice pl c.ls.length cl) [] (some ⟨g, off, none⟩) cap xs w5 from hS)
  clear d0 d1 d2 d3 d4 d5 d6 d7 hS HP c0 cm Hb
  go_wp2_with fail
  try rw [ha]
  clear ha
  go_loopw [8] (fun i wr => ∃ j : Nat, 1 ≤ j ∧ j ≤ m + 1 ∧ i = .int .i64 j ∧ StP W W.heap.size c (.slice (some ⟨gb, goff, none⟩) c.ps.length cp) (.slice pl c.ls.length cl) [] (some ⟨g, off, none⟩) cap xs wr) (fun i _ => m + 1 - (intOf i).toNat)
  case atStart => exact ⟨1, by omega, by omega, rfl, HP5.out⟩
  case round =>
    obtain ⟨j, hj1, hk, rfl, hP⟩ := hrel
    have d6 := (hP.cells).2.2.2.2.2.2.1
    have HP6 := Lib.hid hP
    by_cases hlt : j < m + 1
    · obtain ⟨k, hjk⟩ : ∃ k, j = k + 1 := ⟨j - 1, by omega⟩
      have hlt2 : k < m + 1 := by omega
      obtain ⟨g', off', cap'', he, hb⟩ := (hP.ints).at (by have := HM.out; omega)
      injection he with he1 he2 he3
      injection he1 with he1
      injection he1 with he4 he5 he6
      subst he4 he5
      have e0 := hb k (by have := HM.out; omega)
      have e1 := hb (k + 1) (by have := HM.out; omega)
      have hx := HX.out k (by have := HM.out; omega)
      obtain ⟨z, hz⟩ : ∃ z : Nat, xs.getD k (-1) = z := ⟨(xs.getD k (-1)).toNat, by omega⟩
      obtain ⟨y, hy⟩ : ∃ y : Int, xs.getD (k + 1) (-1) = y := ⟨_, rfl⟩
      have hx1 := HX.out (k + 1) (by have := HM.out; omega)
      rw [show xs.getD k 0 = z by rw [← hz]; simp [List.getD, show k < xs.length by have := HM.out; omega]] at e0
      rw [show xs.getD (k + 1) 0 = y by rw [← hy]; simp [List.getD, show k + 1 < xs.length by have := HM.out; omega]] at e1
      rw [hz, hy] at hx
      rw [hy] at hx1
      have hzn : z < c.ps.length := by omega
      have hf := HH.out.rt.tr.fall z (by omega) (by omega)
      rw [hx.2.2] at hf
      have hpar := hx.2.2
      rw [par, Int.toNat_natCast] at hpar
      have e2w := HG2.out z hzn
      have e2 : wr.cell? ⟨gb, goff + z, none⟩ = some (.int .i64 y) := by
        rw [hP.toBelow.cell (World.block_lt_of_cell? W _ e2w), e2w, hpar]
      have y0 : 0 ≤ y := hx1.1
      have y1 : y < z := hf.2
      have y2 : y ≤ 12 := by omega
      have r1 : decide ((z : Int) ≤ y) = false := by simp; omega
      have r2 : decide (y < 0) = false := by simp; omega
      have r3 : decide ((c.ps.length : Int) ≤ (z : Int)) = false := by simp; omega
      have r5 : decide (c.ps.length ≤ z) = false := by simp; omega
      have r4 : (y != y) = false := by simp
      have s1 : IntKind.i64.wrap ((j : Int) - 1) = (k : Int) := by rw [show (j : Int) - 1 = k by omega]; exact IntWalk.i64_in _ (by omega)
      rw [← hjk] at e1
      have HJ := Lib.hid hjk
      clear hx hx1 hz hy hpar he2 he3 he6 hb hf e2w hP hjk
      go_wp2_with fail
      go_quiet (fail)
      go_wp2_with fail
      go_roundw
      case rel => exact ⟨j + 1, by omega, by omega, by go_num, HP6.out.drewN nq⟩
      case measure => simp [intOf]; omega
    · clear hP
      go_wp2
      go_ret
      exact ⟨rfl, HP6.out.drop.toBelow⟩
theorem TreePath_calls (W : World) (c : Cf) (vp vl : Value) (hw : Wide c) (hp : IntsAt W .i64 vp c.ps) (hl : IntsAt W .i64 vl c.ls) (x : Int) (x0 : 0 ≤ x) (x1 : x ≤ 255) :
    Calls Try.prog 4 #[cfV c vp vl, .int .u8 x] W fun e w' => e = .returned (.bool true) ∧ Below W.heap.size W w' := by
  by_cases h1 : c.ps.length ≤ 100
  · by_cases h2 : c.ls.length ≤ 100
    · have hwf := hw.wf h1 h2
      by_cases hr : c.Rt
      · exact TreePath_main W c ⟨hwf, hr, hp, hl⟩ x x0 x1
      · exact TreePath_wrong W c hwf hp hl h1 h2 hr x x0 x1
    · exact TreePath_big W c hw hp hl (Or.inr (by omega)) x x0 x1
  · exact TreePath_big W c hw hp hl (Or.inl (by omega)) x x0 x1
end Go.Proofs.Ytnbifmkcdnfkhaa
