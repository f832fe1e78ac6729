/- UsagePart. Written by tools/gen_use*.py. -/
import Derived.Test.YtlpdafldabfiaaaGreatC8
import Derived.Test.YtlpdafldabfiaaaGreatC10
import Derived.Test.YtlpdafldabfiaaaGreatC19
import Derived.Test.YtlpdafldabfiaaaGreatC22
import Derived.Test.YtlpdafldabfiaaaGreatC28
import Derived.Test.YtlpdafldabfiaaaGreatC44
import Derived.Lib.QuietBelow
import Derived.Deep.RegionWith
import Derived.StillTailTactics
namespace Go.Proofs.YtlpdafldabfiaaaGreat
open Go.ChangeShapes Go.WideShapes Go.ChangeAt Go.RowKit Go.Shelf
set_option linter.unusedVariables false
set_option linter.unusedSimpArgs false
set_option maxRecDepth 100000
theorem UsagePart_great (W : World) (c : Cf) {vp vl v : Value} {zs : List Int} (hw : Wide c) (hp : IntsAt W .i64 vp c.ps) (hl : IntsAt W .i64 vl c.ls) (hv : IntsAt W .i64 v zs) (hz : ∀ n ∈ zs, I64 n) (hm : zs.length ≤ maxLen) (h : ¬ (c.ps.length ≤ 100 ∧ c.ls.length ≤ 100)) (a : Int) (a0 : IntKind.u8.min ≤ a) (a1 : a ≤ IntKind.u8.max) (b : Int) (b0 : IntKind.u8.min ≤ b) (b1 : b ≤ IntKind.u8.max) :
    Calls Tryz.prog 8 #[cfV c vp vl, v, .int .u8 a, .int .u8 b] W fun e w' => e = .returned (.bool true) ∧ Below W.heap.size W w' := by
  obtain ⟨pp, cp, rfl⟩ := hp.slice
  obtain ⟨pl, cl, rfl⟩ := hl.slice
  obtain ⟨pv, cv, rfl⟩ := hv.slice
  have h0 := (Own.start W).new (cfO c (.slice pp c.ps.length cp) (.slice pl c.ls.length cl))
  have Hh := Lib.hid (head14_any h0)
  clear h0
  have HG := fun w => Lib.hid (Great_yes (pp := pp) (pl := pl) (np := c.ps.length) (nl := c.ls.length) (cp := cp) (cl := cl) c hw.pn hw.ln (by omega) w)
  clear hw h hp hl hv hz
  go_enter Tryz.func8, Tryz.ntmps8
  go_wp2_with fail
  refine Hh.out.mono ?_
  rintro e w1 ⟨rfl, hO⟩
  obtain ⟨d0, d1, d2, d3, d4, d5, d6, d7⟩ := conf_cells hO
  go_wp2_with fail
  refine (HG _).out.mono ?_
  rintro e w2 ⟨rfl, hB⟩
  have hO := hO.below hB
  clear hB HG Hh d0 d1 d2 d3 d4 d5 d6 d7
  have HB := Lib.hid hO.toBelow
  clear hO
  go_wp2_with fail
  go_ret
  exact ⟨rfl, HB.out⟩
theorem UsagePart_wrong (W : World) (c : Cf) {vp vl v : Value} {zs : List Int} (hw : Wide c) (hp : IntsAt W .i64 vp c.ps) (hl : IntsAt W .i64 vl c.ls) (hv : IntsAt W .i64 v zs) (hz : ∀ n ∈ zs, I64 n) (hm : zs.length ≤ maxLen) (h : c.ps.length ≤ 100 ∧ c.ls.length ≤ 100) (hr : ¬ c.Rt) (a : Int) (a0 : IntKind.u8.min ≤ a) (a1 : a ≤ IntKind.u8.max) (b : Int) (b0 : IntKind.u8.min ≤ b) (b1 : b ≤ IntKind.u8.max) :
    Calls Tryz.prog 8 #[cfV c vp vl, v, .int .u8 a, .int .u8 b] W fun e w' => e = .returned (.bool true) ∧ Below W.heap.size W w' := by
  obtain ⟨pp, cp, rfl⟩ := hp.slice
  obtain ⟨pl, cl, rfl⟩ := hl.slice
  obtain ⟨pv, cv, rfl⟩ := hv.slice
  have h0 := (Own.start W).new (cfO c (.slice pp c.ps.length cp) (.slice pl c.ls.length cl))
  have Hh := Lib.hid (head14_any h0)
  clear h0
  have HG := fun w => Lib.hid (Great_no (pp := pp) (pl := pl) (np := c.ps.length) (nl := c.ls.length) (cp := cp) (cl := cl) c h.1 h.2 w)
  have HR := fun w' (hb : Stp W w') => Lib.hid (rRight_any c (hw.wf h.1 h.2) (hp.stp hb) (hl.stp hb))
  rw [rtB_no hr] at HR
  clear hw h hp hl hv hz hr
  go_enter Tryz.func8, Tryz.ntmps8
  go_wp2_with fail
  refine Hh.out.mono ?_
  rintro e w1 ⟨rfl, hO⟩
  obtain ⟨d0, d1, d2, d3, d4, d5, d6, d7⟩ := conf_cells hO
  go_wp2_with fail
  refine (HG _).out.mono ?_
  rintro e w2 ⟨rfl, hB⟩
  have hO := hO.below hB
  clear hB HG Hh d0 d1 d2 d3 d4 d5 d6 d7
  obtain ⟨d0, d1, d2, d3, d4, d5, d6, d7⟩ := conf_cells hO
  go_wp2_with fail
  refine (HR _ hO.toBelow).out.mono ?_
  rintro e w3 ⟨rfl, hB⟩
  have hO := hO.below hB
  clear hB HR d0 d1 d2 d3 d4 d5 d6 d7
  have HB := Lib.hid hO.toBelow
  clear hO
  go_wp2_with fail
  go_ret
  exact ⟨rfl, HB.out⟩
theorem UsagePart_long (W : World) (c : Cf) {vp vl v : Value} {zs : List Int} (hw : Wide c) (hp : IntsAt W .i64 vp c.ps) (hl : IntsAt W .i64 vl c.ls) (hv : IntsAt W .i64 v zs) (hz : ∀ n ∈ zs, I64 n) (hm : zs.length ≤ maxLen) (h : c.ps.length ≤ 100 ∧ c.ls.length ≤ 100) (hr : c.Rt) (hq : 100 < zs.length) (a : Int) (a0 : IntKind.u8.min ≤ a) (a1 : a ≤ IntKind.u8.max) (b : Int) (b0 : IntKind.u8.min ≤ b) (b1 : b ≤ IntKind.u8.max) :
    Calls Tryz.prog 8 #[cfV c vp vl, v, .int .u8 a, .int .u8 b] W fun e w' => e = .returned (.bool true) ∧ Below W.heap.size W w' := by
  obtain ⟨pp, cp, rfl⟩ := hp.slice
  obtain ⟨pl, cl, rfl⟩ := hl.slice
  obtain ⟨pv, cv, rfl⟩ := hv.slice
  have h0 := (Own.start W).new (cfO c (.slice pp c.ps.length cp) (.slice pl c.ls.length cl))
  have Hh := Lib.hid (head14_any h0)
  clear h0
  have HG := fun w => Lib.hid (Great_no (pp := pp) (pl := pl) (np := c.ps.length) (nl := c.ls.length) (cp := cp) (cl := cl) c h.1 h.2 w)
  have HR := fun w' (hb : Stp W w') => Lib.hid (rRight_any c (hw.wf h.1 h.2) (hp.stp hb) (hl.stp hb))
  rw [rtB_yes hr] at HR
  have g1 : (100 : Int) < (zs.length : Int) := by omega
  clear hw h hp hl hv hz hr
  go_enter Tryz.func8, Tryz.ntmps8
  go_wp2_with fail
  refine Hh.out.mono ?_
  rintro e w1 ⟨rfl, hO⟩
  obtain ⟨d0, d1, d2, d3, d4, d5, d6, d7⟩ := conf_cells hO
  go_wp2_with fail
  refine (HG _).out.mono ?_
  rintro e w2 ⟨rfl, hB⟩
  have hO := hO.below hB
  clear hB HG Hh d0 d1 d2 d3 d4 d5 d6 d7
  obtain ⟨d0, d1, d2, d3, d4, d5, d6, d7⟩ := conf_cells hO
  go_wp2_with fail
  refine (HR _ hO.toBelow).out.mono ?_
  rintro e w3 ⟨rfl, hB⟩
  have hO := hO.below hB
  clear hB HR d0 d1 d2 d3 d4 d5 d6 d7
  have HB := Lib.hid hO.toBelow
  clear hO
  go_wp2_with fail
  go_ret
  exact ⟨rfl, HB.out⟩
set_option maxHeartbeats 20000000 in
theorem UsagePart_main (W : World) (c : Cf) {vp vl v : Value} {zs : List Int} (hw : Wide c) (hp : IntsAt W .i64 vp c.ps) (hl : IntsAt W .i64 vl c.ls) (hv : IntsAt W .i64 v zs) (hz : ∀ n ∈ zs, I64 n) (hm : zs.length ≤ maxLen) (h : c.ps.length ≤ 100 ∧ c.ls.length ≤ 100) (hr : c.Rt) (hq : zs.length ≤ 100) (a : Int) (a0 : IntKind.u8.min ≤ a) (a1 : a ≤ IntKind.u8.max) (b : Int) (b0 : IntKind.u8.min ≤ b) (b1 : b ≤ IntKind.u8.max) :
    Calls Tryz.prog 8 #[cfV c vp vl, v, .int .u8 a, .int .u8 b] W fun e w' => e = .returned (.bool true) ∧ Below W.heap.size W w' := by
  obtain ⟨pp, cp, rfl⟩ := hp.slice
  obtain ⟨pl, cl, rfl⟩ := hl.slice
  obtain ⟨pv, cv, rfl⟩ := hv.slice
  have h0 := (Own.start W).new (cfO c (.slice pp c.ps.length cp) (.slice pl c.ls.length cl))
  have Hh := Lib.hid (head14_any h0)
  clear h0
  have HG := fun w => Lib.hid (Great_no (pp := pp) (pl := pl) (np := c.ps.length) (nl := c.ls.length) (cp := cp) (cl := cl) c h.1 h.2 w)
  have HR := fun w' (hb : Stp W w') => Lib.hid (rRight_any c (hw.wf h.1 h.2) (hp.stp hb) (hl.stp hb))
  rw [rtB_yes hr] at HR
  have hn0 := hr.n0
  have hn1 := hr.n1
  have hti := ti_nat hr
  have HRw := fun w L (h : Own W NoF L w) => Lib.hid (uRaw_any hr hp hl hv hq h)
  have hlen : (rawW c zs (rawR c zs)).length = sizeN c := rawW_len c zs _
  have hwf : ∀ k, I64 ((rawW c zs (rawR c zs)).getD k 0) := rawW_wf hr hz _
  have Hp := Lib.hid (show ∀ w', Stp W w' → IntsAt w' .i64 (.slice pp c.ps.length cp) c.ps from fun w' hb => hp.stp hb)
  have Hl := Lib.hid (show ∀ w', Stp W w' → IntsAt w' .i64 (.slice pl c.ls.length cl) c.ls from fun w' hb => hl.stp hb)
  have g1 : ¬ ((100 : Int) < (zs.length : Int)) := by omega
  generalize rawW c zs (rawR c zs) = ws at *
  have a2 : 0 ≤ a := a0
  have a3 : a ≤ 255 := a1
  have b2 : 0 ≤ b := b0
  have b3 : b ≤ 255 := b1
  clear a0 a1 b0 b1
  obtain ⟨U, hU⟩ : ∃ U : Nat, a % (c.ps.length : Int) = (U : Int) := ⟨(a % (c.ps.length : Int)).toNat, by have := Int.emod_nonneg a (show (c.ps.length : Int) ≠ 0 by omega); omega⟩
  obtain ⟨V, hV⟩ : ∃ V : Nat, b % (c.ps.length : Int) = (V : Int) := ⟨(b % (c.ps.length : Int)).toNat, by have := Int.emod_nonneg b (show (c.ps.length : Int) ≠ 0 by omega); omega⟩
  have eA : a.tmod (c.ps.length : Int) = (U : Int) := by rw [← hU]; exact Int.tmod_eq_emod_of_nonneg a2
  have eB : b.tmod (c.ps.length : Int) = (V : Int) := by rw [← hV]; exact Int.tmod_eq_emod_of_nonneg b2
  have eA2 : IntKind.i64.wrap a = a := IntWalk.i64_in _ (by omega)
  have eB2 : IntKind.i64.wrap b = b := IntWalk.i64_in _ (by omega)
  have htz : ¬ (c.ps.length : Int) = 0 := by omega
  have HU := fun (u : Nat) (vr : Value) w' (hv : IntsAt w' .i64 vr ws) (hs : Stp W w') => Lib.hid (uUsed_any (w := w') (vr := vr) (pp := pp) (cp := cp) (pl := pl) (cl := cl) hr hlen hwf u hv (Hp.out _ hs) (Hl.out _ hs))
  have HN := fun (x y : Nat) w' (hs : Stp W w') => Lib.hid (rUnder_any (w := w') c hr.tr (Hp.out _ hs) (Hl.out _ hs) (x : Int) (y : Int))
  have m1 := fun (h : On c.ps (U : Int) (V : Int)) => used_under hr ws h
  have m2 := fun (h : On c.ps (V : Int) (U : Int)) => used_under hr ws h
  have m3 := fun h h' => used_apart hr ws (u := U) (v := V) h h'
  have n1 := used_bd hr ws U
  have n2 := used_bd hr ws V
  have n3 := used_bd hr ws 0
  have HLen := Lib.hid hlen
  clear hw h hp hl hv hz hr hlen hwf hti hU hV
  go_enter Tryz.func8, Tryz.ntmps8
  go_wp2_with fail
  refine Hh.out.mono ?_
  rintro e w1 ⟨rfl, hO⟩
  obtain ⟨d0, d1, d2, d3, d4, d5, d6, d7⟩ := conf_cells hO
  go_wp2_with fail
  refine (HG _).out.mono ?_
  rintro e w2 ⟨rfl, hB⟩
  have hO := hO.below hB
  clear hB HG Hh d0 d1 d2 d3 d4 d5 d6 d7
  obtain ⟨d0, d1, d2, d3, d4, d5, d6, d7⟩ := conf_cells hO
  go_wp2_with fail
  refine (HR _ hO.toBelow).out.mono ?_
  rintro e w3 ⟨rfl, hB⟩
  have hO := hO.below hB
  clear hB HR d0 d1 d2 d3 d4 d5 d6 d7
  obtain ⟨d0, d1, d2, d3, d4, d5, d6, d7⟩ := conf_cells hO
  go_wp2_with fail
  refine (HRw _ _ hO).out.mono ?_
  rintro e w4 ⟨vw, rfl, hO⟩
  rw [← HLen.out] at hO
  clear HRw d0 d1 d2 d3 d4 d5 d6 d7
  obtain ⟨d0, d1, d2, d3, d4, d5, d6, d7⟩ := conf_cells hO.swap
  go_wp2_with fail
  refine (HU U _ _ hO.intsAt hO.toBelow).out.mono ?_
  rintro e w5 ⟨rfl, hB⟩
  have hO := hO.below hB
  clear hB d0 d1 d2 d3 d4 d5 d6 d7
  obtain ⟨d0, d1, d2, d3, d4, d5, d6, d7⟩ := conf_cells hO.swap
  go_wp2_with fail
  refine (HU V _ _ hO.intsAt hO.toBelow).out.mono ?_
  rintro e w6 ⟨rfl, hB⟩
  have hO := hO.below hB
  clear hB d0 d1 d2 d3 d4 d5 d6 d7
  obtain ⟨d0, d1, d2, d3, d4, d5, d6, d7⟩ := conf_cells hO.swap
  generalize hx : usedU c ws U = x at *
  generalize hy : usedU c ws V = y at *
  clear hx hy
  go_wp2_with fail
  refine (HN U V _ hO.toBelow).out.mono ?_
  rintro e w7 ⟨rfl, hB⟩
  have hO := hO.below hB
  clear hB d0 d1 d2 d3 d4 d5 d6 d7
  obtain ⟨d0, d1, d2, d3, d4, d5, d6, d7⟩ := conf_cells hO.swap
  cases hq1 : onB c.ps (U : Int) (V : Int) with
  | true =>
    have q1 := m1 (of_decide_eq_true hq1)
    have HB := Lib.hid hO.toBelow
    clear hO hq1 m1 m2 m3 HU HN
    have q2 : decide (x ≤ y) = true := by simp; exact q1
    go_wp2_with fail
    go_ret
    exact ⟨rfl, HB.out⟩
  | false =>
    have p1 := of_decide_eq_false hq1
    clear hq1
    go_wp2_with fail
    refine (HN V U _ hO.toBelow).out.mono ?_
    rintro e w8 ⟨rfl, hB⟩
    have hO := hO.below hB
    clear hB d0 d1 d2 d3 d4 d5 d6 d7
    obtain ⟨d0, d1, d2, d3, d4, d5, d6, d7⟩ := conf_cells hO.swap
    cases hq2 : onB c.ps (V : Int) (U : Int) with
    | true =>
      have q1 := m2 (of_decide_eq_true hq2)
      have HB := Lib.hid hO.toBelow
      clear hO hq2 m1 m2 m3 HU HN
      have q2 : decide (y ≤ x) = true := by simp; exact q1
      go_wp2_with fail
      go_ret
      exact ⟨rfl, HB.out⟩
    | false =>
      have q1 := m3 p1 (of_decide_eq_false hq2)
      have HU0 := HU 0 _ _ hO.intsAt hO.toBelow
      have HO := Lib.hid hO
      clear hO hq2 p1 m1 m2 m3 HU HN
      generalize usedU c ws 0 = z at *
      have q2 : decide (x + y ≤ z) = true := by simp; exact q1
      go_wp2_with fail
      refine HU0.out.mono ?_
      rintro e w9 ⟨rfl, hB⟩
      have HB := Lib.hid (HO.out.below hB).toBelow
      clear hB HO d0 d1 d2 d3 d4 d5 d6 d7
      go_wp2_with fail
      go_ret
      exact ⟨rfl, HB.out⟩
theorem UsagePart_calls (W : World) (c : Cf) (vp vl : Value) (hwd : Wide c) (hp : IntsAt W .i64 vp c.ps) (hl : IntsAt W .i64 vl c.ls) (v : Value) (zs : List Int) (hm : zs.length ≤ maxLen) (hzw : ∀ n ∈ zs, (Lit.int .i64 n).wf = true) (hv : IntsAt W .i64 v zs) (a : Int) (a0 : IntKind.u8.min ≤ a) (a1 : a ≤ IntKind.u8.max) (b : Int) (b0 : IntKind.u8.min ≤ b) (b1 : b ≤ IntKind.u8.max) :
    Calls Tryz.prog 8 #[cfV c vp vl, v, .int .u8 a, .int .u8 b] W fun e w' => e = .returned (.bool true) ∧ Below W.heap.size W w' := by
  have hz : ∀ n ∈ zs, I64 n := fun n hn => law_wf (hzw n hn)
  by_cases h : c.ps.length ≤ 100 ∧ c.ls.length ≤ 100
  · by_cases hr : c.Rt
    · by_cases hq : zs.length ≤ 100
      · exact UsagePart_main W c hwd hp hl hv hz hm h hr hq a a0 a1 b b0 b1
      · exact UsagePart_long W c hwd hp hl hv hz hm h hr (by omega) a a0 a1 b b0 b1
    · exact UsagePart_wrong W c hwd hp hl hv hz hm h hr a a0 a1 b b0 b1
  · exact UsagePart_great W c hwd hp hl hv hz hm h a a0 a1 b b0 b1
end Go.Proofs.YtlpdafldabfiaaaGreat
