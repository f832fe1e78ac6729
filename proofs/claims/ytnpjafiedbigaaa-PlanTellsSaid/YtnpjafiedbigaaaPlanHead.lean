/- What every law of layer 5 begins with: the live question, and whether a setting is good. -/
import Derived.Test.YtnpjafiedbigaaaPlanRef
import Derived.Test.YtnpjafiedbigaaaConfRef
import Derived.Test.YtnpjafiedbigaaaTreeLaw
namespace Go.Proofs.Ytnpjafiedbigaaa
open Go.ChangeShapes Go.WideShapes Go.ChangeAt Go.RowKit Go.Shelf
set_option linter.unusedVariables false
variable {w0 w w' W : World} {F0 : Nat → Prop} {L : List Asn} {b : Nat} {c : Cf} {pp pl : Option Addr} {np nl cp cl : Nat} {vp vl : Value}
theorem Good_yes (c : Cf) (hw : c.Wf) (hr : c.Rt) {vp vl : Value} (hp : IntsAt w .i64 vp c.ps) (hl : IntsAt w .i64 vl c.ls) :
    Calls Try.prog 10 #[cfV c vp vl] w fun e w' => e = .returned (.bool true) ∧ Below w.heap.size w w' := by
  obtain ⟨pp, cp, rfl⟩ := hp.slice
  obtain ⟨pl, cl, rfl⟩ := hl.slice
  have HG := fun w => Lib.hid (Great_no (pp := pp) (pl := pl) (np := c.ps.length) (nl := c.ls.length) (cp := cp) (cl := cl) c (by have := hr.n1; omega) (by have := hr.n1; have := hr.ll; omega) w)
  have HR := fun w' (hb : Stp w w') => Lib.hid (rRight_any c hw (hp.stp hb) (hl.stp hb))
  rw [rtB_yes hr] at HR
  clear hp hl hw hr
  have hS := (Stp.refl w).alloc (cfO c (.slice pp c.ps.length cp) (.slice pl c.ls.length cl))
  go_enter Try.func10, Try.ntmps10
  go_wp2_with fail
  refine (HG _).out.mono ?_
  rintro e w1 ⟨rfl, hB⟩
  have hS1 := hS.trans hB
  obtain ⟨d0, d1, d2, d3, d4, d5, d6, d7⟩ := conf_cells (((Own.start w).new (cfO c (.slice pp c.ps.length cp) (.slice pl c.ls.length cl))).below hB)
  clear hB hS HG
  go_wp2_with fail
  refine (HR _ hS1).out.mono ?_
  rintro e w2 ⟨rfl, hB⟩
  have hS2 := Lib.hid (hS1.trans hB)
  clear hB hS1 HR d0 d1 d2 d3 d4 d5 d6 d7
  go_wp2_with fail
  go_ret
  exact ⟨rfl, hS2.out⟩
theorem Good_no (c : Cf) (hw : Wide c) (hr : ¬ c.Rt) {vp vl : Value} (hp : IntsAt w .i64 vp c.ps) (hl : IntsAt w .i64 vl c.ls) :
    Calls Try.prog 10 #[cfV c vp vl] w fun e w' => e = .returned (.bool false) ∧ Below w.heap.size w w' := by
  by_cases hlen : c.ps.length ≤ 100 ∧ c.ls.length ≤ 100
  · have hwf := hw.wf hlen.1 hlen.2
    obtain ⟨pp, cp, rfl⟩ := hp.slice
    obtain ⟨pl, cl, rfl⟩ := hl.slice
    have HG := fun w => Lib.hid (Great_no (pp := pp) (pl := pl) (np := c.ps.length) (nl := c.ls.length) (cp := cp) (cl := cl) c hlen.1 hlen.2 w)
    have HR := fun w' (hb : Stp w w') => Lib.hid (rRight_any c hwf (hp.stp hb) (hl.stp hb))
    rw [rtB_no hr] at HR
    clear hp hl hw hr hlen hwf
    have hS := (Stp.refl w).alloc (cfO c (.slice pp c.ps.length cp) (.slice pl c.ls.length cl))
    go_enter Try.func10, Try.ntmps10
    go_wp2_with fail
    refine (HG _).out.mono ?_
    rintro e w1 ⟨rfl, hB⟩
    have hS1 := hS.trans hB
    obtain ⟨d0, d1, d2, d3, d4, d5, d6, d7⟩ := conf_cells (((Own.start w).new (cfO c (.slice pp c.ps.length cp) (.slice pl c.ls.length cl))).below hB)
    clear hB hS HG
    go_wp2_with fail
    refine (HR _ hS1).out.mono ?_
    rintro e w2 ⟨rfl, hB⟩
    have hS2 := Lib.hid (hS1.trans hB)
    clear hB hS1 HR d0 d1 d2 d3 d4 d5 d6 d7
    go_wp2_with fail
    go_ret
    exact ⟨rfl, hS2.out⟩
  · obtain ⟨pp, cp, rfl⟩ := hp.slice
    obtain ⟨pl, cl, rfl⟩ := hl.slice
    have HG := fun w => Lib.hid (Great_yes (pp := pp) (pl := pl) (np := c.ps.length) (nl := c.ls.length) (cp := cp) (cl := cl) c hw.pn hw.ln (by omega) w)
    clear hp hl hw hr hlen
    have hS := (Stp.refl w).alloc (cfO c (.slice pp c.ps.length cp) (.slice pl c.ls.length cl))
    go_enter Try.func10, Try.ntmps10
    go_wp2_with fail
    refine (HG _).out.mono ?_
    rintro e w1 ⟨rfl, hB⟩
    have hS2 := Lib.hid (hS.trans hB)
    clear hB hS HG
    go_wp2_with fail
    go_ret
    exact ⟨rfl, hS2.out⟩
def baseW : List Int := [20, 20, 0, 0, 0, 0, 0, 1, 0, 0, 10, 10, 0, 0, 0, 0, 0, 1, 0, 0, 8, 8, 0, 0, 0, 0, 0, 1, 0, 0, 5, 5, 0, 0, 0, 0, 0, 1, 0, 0, 0, 0, 0, 0, 0, 0]
theorem base_fresh : freshW baseC 4 = baseW := by decide +kernel
theorem IntsAt.cell {k : IntKind} {b off n cap : Nat} {zs : List Int} (h : IntsAt w k (.slice (some ⟨b, off, none⟩) n cap) zs) (j : Nat) (hj : j < zs.length) : w.cell? ⟨b, off + j, none⟩ = some (.int k (zs.getD j 0)) := by
  obtain ⟨b', off', cap', he, hc⟩ := h.at (by omega)
  injection he with he1 he2 he3
  injection he1 with he1
  injection he1 with he4 he5 he6
  subst he4 he5
  exact hc j hj
/-- What the live question's chain reads. -/
theorem head5_cells {g k gw off cap : Nat} (h : Own w0 F0 (row (.slice (some ⟨gw, off, none⟩) 46 cap) 3 1 46 (intC baseW) :: headL b g k L) w) : (w.cell? ⟨b, 0, none⟩ = some (.int .i64 baseC.th) ∧ w.cell? ⟨b, 1, none⟩ = some (.int .i64 baseC.st) ∧ w.cell? ⟨b, 2, none⟩ = some (.int .i64 baseC.ga) ∧ w.cell? ⟨b, 3, none⟩ = some (.int .i64 baseC.le) ∧ w.cell? ⟨b, 4, none⟩ = some (.int .i64 baseC.re) ∧ w.cell? ⟨b, 5, none⟩ = some (.int .i64 baseC.ti) ∧ w.cell? ⟨b, 6, none⟩ = some (rowAt g 4) ∧ w.cell? ⟨b, 7, none⟩ = some (rowAt k 4)) ∧ w.cell? ⟨gw, off, none⟩ = some (.int .i64 20) ∧ w.cell? ⟨gw, off + 1, none⟩ = some (.int .i64 20) ∧ w.cell? ⟨gw, off + 7, none⟩ = some (.int .i64 1) ∧ w.cell? ⟨gw, off + 4, none⟩ = some (.int .i64 0) ∧ w.cell? ⟨gw, off + 45, none⟩ = some (.int .i64 0) := by
  have hI : IntsAt w .i64 (.slice (some ⟨gw, off, none⟩) 46 cap) baseW := Own.intsAt (zs := baseW) h
  exact ⟨conf_cells h.swap, hI.cell 0 (by decide), hI.cell 1 (by decide), hI.cell 7 (by decide), hI.cell 4 (by decide), hI.cell 45 (by decide)⟩
set_option maxRecDepth 100000 in
set_option maxHeartbeats 1000000 in
theorem head5_any (h : Own w0 F0 L w) : Calls Try.prog 9 #[] w fun e w' => e = .returned (.bool true) ∧ Own w0 F0 L w' := by
  have HBase := Lib.hid (Base_any h)
  clear h
  go_enter Try.func9, Try.ntmps9
  go_wp2_with fail
  refine HBase.out.mono ?_
  rintro e w1 ⟨g, k, rfl, hO⟩
  have hO : Own w0 F0 (headL w1.heap.size g k L) (w1.alloc (cfO baseC (rowAt g 4) (rowAt k 4))) := by
    have h1 := hO.under fun _ _ h => h.blkRow (n := 4) (cap := 4) (size := 1) (xs := intC [20, 10, 8, 5]) (by decide) (by decide) rfl rfl rfl
    have h2 := h1.blkRow (n := 4) (cap := 4) (size := 1) (xs := intC [-1, 0, 1, 0]) (by decide) (by decide) rfl rfl rfl
    exact h2.new (cfO baseC (rowAt g 4) (rowAt k 4))
  obtain ⟨b, hb⟩ : ∃ b, b = w1.heap.size := ⟨_, rfl⟩
  rw [← hb] at hO
  have HO := Lib.hid hO
  have HB := Lib.hid hb
  clear hO HBase hb
  have HF := Lib.hid (Fresh_any (pp := some ⟨g, 0, none⟩) (cp := 4) (vl := rowAt k 4) baseC base_rt (fun w' h' => (head_rows h').2) HO.out)
  go_wp2_with fail
  refine HF.out.mono ?_
  rintro e w2 ⟨m, rfl, hO⟩
  rw [show baseC.ps.length = 4 from rfl, base_fresh] at hO
  have HW := Lib.hid (Words_any (by decide) hO)
  rw [← HB.out]
  clear HF HO HB hO
  go_wp2_with fail
  refine HW.out.mono ?_
  rintro e w3 ⟨v, rfl, hO⟩
  have hO : Own w0 F0 (row v 3 1 46 (intC baseW) :: headL b g k L) w3 := (hO.under fun _ _ h => h.drop)
  obtain ⟨gw, off, cap, rfl, hcw⟩ := (Own.intsAt (zs := baseW) hO).at (by decide)
  rw [show baseW.length = 46 from rfl] at hO ⊢
  obtain ⟨⟨d0, d1, d2, d3, d4, d5, d6, d7⟩, r0, r1, r2, r3, r4⟩ := head5_cells hO
  have Q0 := fun w => Lib.hid (Limit_q (pp := some ⟨g, 0, none⟩) (np := 4) (cp := 4) (pl := some ⟨k, 0, none⟩) (nl := 4) (cl := 4) baseC base_rt.sm 1 (by decide) (by decide) w)
  rw [show lim baseC 1 = 10 from by decide] at Q0
  have Q1 := fun w => Lib.hid (Avail_q (pp := some ⟨g, 0, none⟩) (np := 4) (cp := 4) (pl := some ⟨k, 0, none⟩) (nl := 4) (cl := 4) baseC base_rt.sm 1 (by decide) (by decide) w)
  rw [show lim baseC 1 + 1 = 11 from by decide] at Q1
  have Q2 := fun w => Lib.hid (Lease_q (pp := some ⟨g, 0, none⟩) (np := 4) (cp := 4) (pl := some ⟨k, 0, none⟩) (nl := 4) (cl := 4) baseC base_rt.sm 1 (by decide) (by decide) 1 (by decide) (by decide) w)
  rw [show lim baseC 1 + 2 + 1 = 13 from by decide] at Q2
  have Q3 := fun w => Lib.hid (Counter_q (pp := some ⟨g, 0, none⟩) (np := 4) (cp := 4) (pl := some ⟨k, 0, none⟩) (nl := 4) (cl := 4) baseC base_rt.sm 1 (by decide) (by decide) w)
  rw [show lim baseC 1 + 2 + baseC.st = 14 from by decide] at Q3
  have Q4 := fun w => Lib.hid (Ticket_q (pp := some ⟨g, 0, none⟩) (np := 4) (cp := 4) (pl := some ⟨k, 0, none⟩) (nl := 4) (cl := 4) baseC base_rt.sm (by decide) 2 (by decide) (by decide) w)
  rw [show lim baseC ((4 : Nat) : Int) + 2 * 2 = 44 from by decide] at Q4
  have Q5 := fun w => Lib.hid (Size_q (pp := some ⟨g, 0, none⟩) (np := 4) (cp := 4) (pl := some ⟨k, 0, none⟩) (nl := 4) (cl := 4) baseC base_rt.sm (by decide) (by decide) (by decide) w)
  rw [show lim baseC ((4 : Nat) : Int) + 2 * baseC.ti = 46 from by decide] at Q5
  clear hcw HW
  go_wp2_with (first | (go_at_call 11; refine (Q0 _).out.mono ?_; rintro e w' ⟨rfl, hB⟩; have hO := Own.below hO hB; obtain ⟨⟨d0, d1, d2, d3, d4, d5, d6, d7⟩, r0, r1, r2, r3, r4⟩ := head5_cells hO) | (go_at_call 13; refine (Q1 _).out.mono ?_; rintro e w' ⟨rfl, hB⟩; have hO := Own.below hO hB; obtain ⟨⟨d0, d1, d2, d3, d4, d5, d6, d7⟩, r0, r1, r2, r3, r4⟩ := head5_cells hO) | (go_at_call 15; refine (Q2 _).out.mono ?_; rintro e w' ⟨rfl, hB⟩; have hO := Own.below hO hB; obtain ⟨⟨d0, d1, d2, d3, d4, d5, d6, d7⟩, r0, r1, r2, r3, r4⟩ := head5_cells hO) | (go_at_call 17; refine (Q3 _).out.mono ?_; rintro e w' ⟨rfl, hB⟩; have hO := Own.below hO hB; obtain ⟨⟨d0, d1, d2, d3, d4, d5, d6, d7⟩, r0, r1, r2, r3, r4⟩ := head5_cells hO) | (go_at_call 19; refine (Q4 _).out.mono ?_; rintro e w' ⟨rfl, hB⟩; have hO := Own.below hO hB; obtain ⟨⟨d0, d1, d2, d3, d4, d5, d6, d7⟩, r0, r1, r2, r3, r4⟩ := head5_cells hO) | (go_at_call 21; refine (Q5 _).out.mono ?_; rintro e w' ⟨rfl, hB⟩; have hO := Own.below hO hB; obtain ⟨⟨d0, d1, d2, d3, d4, d5, d6, d7⟩, r0, r1, r2, r3, r4⟩ := head5_cells hO))
  have HO := Lib.hid hO.drop
  go_ret
  exact ⟨rfl, HO.out.drop.drop.drop⟩
end Go.Proofs.Ytnpjafiedbigaaa
