/- PlanNodes. Written by tools/gen_law5.py. -/
import Derived.Test.YtnpjafiedbigaaaPlanHead
namespace Go.Proofs.Ytnpjafiedbigaaa
open Go.ChangeShapes Go.WideShapes Go.ChangeAt Go.RowKit Go.Shelf
set_option linter.unusedVariables false
theorem PlanNodes_wrong (W : World) (c : Cf) (hw : Wide c) {vp vl : Value} (hp : IntsAt W .i64 vp c.ps) (hl : IntsAt W .i64 vl c.ls) (h : ¬ c.Rt) (x : Int) (x0 : 0 ≤ x) (x1 : x ≤ 255) (y : Int) (y0 : 0 ≤ y) (y1 : y ≤ 255) :
    Calls Try.prog 6 #[cfV c vp vl, .int .u8 x, .int .u8 y] W fun e w' => e = .returned (.bool true) ∧ Below W.heap.size W w' := by
  obtain ⟨pp, cp, rfl⟩ := hp.slice
  obtain ⟨pl, cl, rfl⟩ := hl.slice
  have Hh := Lib.hid (head5_any (St.start W c (.slice pp c.ps.length cp) (.slice pl c.ls.length cl)))
  have HG := fun w' (hb : Stp W w') => Lib.hid (Good_no c hw h (hp.stp hb) (hl.stp hb))
  clear h hp hl hw
  go_enter Try.func6, Try.ntmps6
  go_wp2_with fail
  refine Hh.out.mono ?_
  rintro e w1 ⟨rfl, hS⟩
  obtain ⟨d0, d1, d2, d3, d4, d5, d6, d7⟩ := St.cells hS
  go_wp2_with fail
  refine (HG _ (Own.toBelow hS)).out.mono ?_
  rintro e w2 ⟨rfl, hB⟩
  have hS := St.below hS hB
  clear hB HG Hh d0 d1 d2 d3 d4 d5 d6 d7
  obtain ⟨d0, d1, d2, d3, d4, d5, d6, d7⟩ := St.cells hS
  have HO := Lib.hid hS.toBelow
  clear hS
  go_wp2_with fail
  go_ret
  exact ⟨rfl, HO.out⟩
set_option maxRecDepth 100000 in
set_option maxHeartbeats 2000000 in
theorem PlanNodes_main (W : World) (c : Cf) {vp vl : Value} (H : Has W c vp vl) (x : Int) (x0 : 0 ≤ x) (x1 : x ≤ 255) (y : Int) (y0 : 0 ≤ y) (y1 : y ≤ 255) :
    Calls Try.prog 6 #[cfV c vp vl, .int .u8 x, .int .u8 y] W fun e w' => e = .returned (.bool true) ∧ Below W.heap.size W w' := by
  obtain ⟨pp, cp, rfl⟩ := H.p.slice
  obtain ⟨pl, cl, rfl⟩ := H.l.slice
  have Hh := Lib.hid (head5_any (St.start W c (.slice pp c.ps.length cp) (.slice pl c.ls.length cl)))
  have HG := fun w' (hb : Stp W w') => Lib.hid (Good_yes c H.wf H.rt (H.p.stp hb) (H.l.stp hb))
  have hn0 := H.rt.n0
  have hn1 := H.rt.n1
  have hs := H.rt.sm
  have ht := H.rt.ti
  unfold Bd at ht
  obtain ⟨t0, t1⟩ := ht
  have hlb := fun (x : Int) (h0 : 0 ≤ x) (h1 : x ≤ 13) => lim_bd hs h0 h1
  obtain ⟨s0, s1⟩ := hs
  obtain ⟨v, hv⟩ : ∃ v : Int, x % (c.ps.length : Int) = v := ⟨_, rfl⟩
  have v0 : 0 ≤ v := by rw [← hv]; exact Int.emod_nonneg _ (by omega)
  have v1 : v < (c.ps.length : Int) := by rw [← hv]; exact Int.emod_lt_of_pos _ (by omega)
  obtain ⟨t, ht⟩ : ∃ t : Int, y % c.ti = t := ⟨_, rfl⟩
  have u0 : 0 ≤ t := by rw [← ht]; exact Int.emod_nonneg _ (by omega)
  have u1 : t < c.ti := by rw [← ht]; exact Int.emod_lt_of_pos _ (by omega)
  have lp := lim_next c ((c.ps.length : Int) - 1)
  rw [show (c.ps.length : Int) - 1 + 1 = c.ps.length by omega] at lp
  have e2 : lim c ((c.ps.length : Int) - 1) + (6 + 2 * c.st) = lim c c.ps.length := by rw [lp]; rfl
  have lv := lim_next c (v - 1)
  rw [show v - 1 + 1 = v by omega] at lv
  have e1 : lim c (v - 1) + (6 + 2 * c.st) = lim c v := by rw [lv]; rfl
  have e3 : lim c v + 2 + (c.st - 1) + 1 = lim c v + 2 + c.st := by omega
  have e4 : lim c c.ps.length + 2 * (t - 1) + 2 = lim c c.ps.length + 2 * t := by omega
  have e5 : lim c c.ps.length + 2 * (c.ti - 1) + 2 = lim c c.ps.length + 2 * c.ti := by omega
  have e6 := lim_zero c
  have b1 := hlb v (by omega) (by omega)
  have b2 := hlb c.ps.length (by omega) (by omega)
  have b3 := hlb (c.ps.length - 1) (by omega) (by omega)
  have HLB := Lib.hid hlb
  clear lp lv hlb H
  go_enter Try.func6, Try.ntmps6
  go_wp2_with fail
  refine Hh.out.mono ?_
  rintro e w1 ⟨rfl, hS⟩
  obtain ⟨d0, d1, d2, d3, d4, d5, d6, d7⟩ := St.cells hS
  go_wp2_with fail
  refine (HG _ (Own.toBelow hS)).out.mono ?_
  rintro e w2 ⟨rfl, hB⟩
  have hS := St.below hS hB
  clear hB HG Hh d0 d1 d2 d3 d4 d5 d6 d7
  obtain ⟨d0, d1, d2, d3, d4, d5, d6, d7⟩ := St.cells hS
  have HO := Lib.hid (show Stp W _ from Own.toBelow hS)
  have L1 := fun w => Lib.hid (Limit_q (pp := pp) (np := c.ps.length) (cp := cp) (pl := pl) (nl := c.ls.length) (cl := cl) c ⟨s0, s1⟩ ((c.ps.length : Int) - 1) (by omega) (by omega) w)
  go_wp2_with fail
  refine (L1 _).out.mono ?_
  rintro e w3 ⟨rfl, hB⟩
  have hS := St.below hS hB
  have HO := Lib.hid (show Stp W _ from Own.toBelow hS)
  clear d0 d1 d2 d3 d4 d5 d6 d7 hB L1
  obtain ⟨d0, d1, d2, d3, d4, d5, d6, d7⟩ := St.cells hS
  clear hS
  go_wp2_with fail
  have C1 := fun (x : Int) (h0 : 0 ≤ x) (h1 : x ≤ 12) d os => Calls.regrown_of (Limit_q (pp := pp) (np := c.ps.length) (cp := cp) (pl := pl) (nl := c.ls.length) (cl := cl) c ⟨s0, s1⟩ x h0 h1 (Go.Sort.grow (redrawn w3 d) os))
  have C2 := fun (x : Int) (h0 : 0 ≤ x) (h1 : x ≤ 12) d os => Calls.regrown_of (Avail_q (pp := pp) (np := c.ps.length) (cp := cp) (pl := pl) (nl := c.ls.length) (cl := cl) c ⟨s0, s1⟩ x h0 h1 (Go.Sort.grow (redrawn w3 d) os))
  have C3 := fun (x : Int) (h0 : 0 ≤ x) (h1 : x ≤ 12) (y : Int) (h2 : 0 ≤ y) (h3 : y ≤ 8) d os => Calls.regrown_of (Lease_q (pp := pp) (np := c.ps.length) (cp := cp) (pl := pl) (nl := c.ls.length) (cl := cl) c ⟨s0, s1⟩ x h0 h1 y h2 h3 (Go.Sort.grow (redrawn w3 d) os))
  have C4 := fun (x : Int) (h0 : 0 ≤ x) (h1 : x ≤ 12) d os => Calls.regrown_of (Counter_q (pp := pp) (np := c.ps.length) (cp := cp) (pl := pl) (nl := c.ls.length) (cl := cl) c ⟨s0, s1⟩ x h0 h1 (Go.Sort.grow (redrawn w3 d) os))
  have C5 := fun (x : Int) (h0 : 0 ≤ x) (h1 : x ≤ 16) d os => Calls.regrown_of (Ticket_q (pp := pp) (np := c.ps.length) (cp := cp) (pl := pl) (nl := c.ls.length) (cl := cl) c ⟨s0, s1⟩ hn1 x h0 h1 (Go.Sort.grow (redrawn w3 d) os))
  have C6 := fun d os => Calls.regrown_of (Size_q (pp := pp) (np := c.ps.length) (cp := cp) (pl := pl) (nl := c.ls.length) (cl := cl) c ⟨s0, s1⟩ hn1 (by omega) t1 (Go.Sort.grow (redrawn w3 d) os))
  rcases (by omega : v = 0 ∨ 1 ≤ v) with hv0 | hv0 <;> rcases (by omega : t = 0 ∨ 1 ≤ t) with ht0 | ht0
  case inl.inl => have hF1 : (v == 0) = true := by simp [hv0]
                  have hF2 : (t == 0) = true := by simp [ht0]
                  clear hv0 ht0
                  have k0 := cell_regrown d0
                  have k1 := cell_regrown d1
                  have k2 := cell_regrown d2
                  have k3 := cell_regrown d3
                  have k4 := cell_regrown d4
                  have k5 := cell_regrown d5
                  have k6 := cell_regrown d6
                  have k7 := cell_regrown d7
                  dsimp only [List.append]
                  refine wp_region_quiet_below (by kernel_rfl) (by kernel_rfl) ?_
                  repeat (go_big_quiet_step ((first | (go_at_call 11; exact C1 _ (by omega) (by omega) _ _) | (go_at_call 13; exact C2 _ (by omega) (by omega) _ _) | (go_at_call 15; exact C3 _ (by omega) (by omega) _ (by omega) (by omega) _ _) | (go_at_call 17; exact C4 _ (by omega) (by omega) _ _) | (go_at_call 19; exact C5 _ (by omega) (by omega) _ _) | (go_at_call 21; exact C6 _ _))))
                  refine wpQuiet_nil ?_
                  intro _ hw'
                  obtain ⟨⟨dq, osq⟩, hw''⟩ := hw'
                  subst hw''
                  clear k0 k1 k2 k3 k4 k5 k6 k7
                  go_wp2_with fail
                  go_ret
                  exact ⟨rfl, HO.out.trans (below_regrown _ dq osq)⟩
  case inl.inr => have hF1 : (v == 0) = true := by simp [hv0]
                  have hF2 : (t == 0) = false := by simp; omega
                  clear hv0
                  have k0 := cell_regrown d0
                  have k1 := cell_regrown d1
                  have k2 := cell_regrown d2
                  have k3 := cell_regrown d3
                  have k4 := cell_regrown d4
                  have k5 := cell_regrown d5
                  have k6 := cell_regrown d6
                  have k7 := cell_regrown d7
                  dsimp only [List.append]
                  refine wp_region_quiet_below (by kernel_rfl) (by kernel_rfl) ?_
                  repeat (go_big_quiet_step ((first | (go_at_call 11; exact C1 _ (by omega) (by omega) _ _) | (go_at_call 13; exact C2 _ (by omega) (by omega) _ _) | (go_at_call 15; exact C3 _ (by omega) (by omega) _ (by omega) (by omega) _ _) | (go_at_call 17; exact C4 _ (by omega) (by omega) _ _) | (go_at_call 19; exact C5 _ (by omega) (by omega) _ _) | (go_at_call 21; exact C6 _ _))))
                  refine wpQuiet_nil ?_
                  intro _ hw'
                  obtain ⟨⟨dq, osq⟩, hw''⟩ := hw'
                  subst hw''
                  clear k0 k1 k2 k3 k4 k5 k6 k7
                  go_wp2_with fail
                  go_ret
                  exact ⟨rfl, HO.out.trans (below_regrown _ dq osq)⟩
  case inr.inl => have hF1 : (v == 0) = false := by simp; omega
                  have hF2 : (t == 0) = true := by simp [ht0]
                  clear ht0
                  have k0 := cell_regrown d0
                  have k1 := cell_regrown d1
                  have k2 := cell_regrown d2
                  have k3 := cell_regrown d3
                  have k4 := cell_regrown d4
                  have k5 := cell_regrown d5
                  have k6 := cell_regrown d6
                  have k7 := cell_regrown d7
                  dsimp only [List.append]
                  refine wp_region_quiet_below (by kernel_rfl) (by kernel_rfl) ?_
                  repeat (go_big_quiet_step ((first | (go_at_call 11; exact C1 _ (by omega) (by omega) _ _) | (go_at_call 13; exact C2 _ (by omega) (by omega) _ _) | (go_at_call 15; exact C3 _ (by omega) (by omega) _ (by omega) (by omega) _ _) | (go_at_call 17; exact C4 _ (by omega) (by omega) _ _) | (go_at_call 19; exact C5 _ (by omega) (by omega) _ _) | (go_at_call 21; exact C6 _ _))))
                  refine wpQuiet_nil ?_
                  intro _ hw'
                  obtain ⟨⟨dq, osq⟩, hw''⟩ := hw'
                  subst hw''
                  clear k0 k1 k2 k3 k4 k5 k6 k7
                  go_wp2_with fail
                  go_ret
                  exact ⟨rfl, HO.out.trans (below_regrown _ dq osq)⟩
  case inr.inr => have hF1 : (v == 0) = false := by simp; omega
                  have hF2 : (t == 0) = false := by simp; omega
                  have k0 := cell_regrown d0
                  have k1 := cell_regrown d1
                  have k2 := cell_regrown d2
                  have k3 := cell_regrown d3
                  have k4 := cell_regrown d4
                  have k5 := cell_regrown d5
                  have k6 := cell_regrown d6
                  have k7 := cell_regrown d7
                  dsimp only [List.append]
                  refine wp_region_quiet_below (by kernel_rfl) (by kernel_rfl) ?_
                  repeat (go_big_quiet_step ((first | (go_at_call 11; exact C1 _ (by omega) (by omega) _ _) | (go_at_call 13; exact C2 _ (by omega) (by omega) _ _) | (go_at_call 15; exact C3 _ (by omega) (by omega) _ (by omega) (by omega) _ _) | (go_at_call 17; exact C4 _ (by omega) (by omega) _ _) | (go_at_call 19; exact C5 _ (by omega) (by omega) _ _) | (go_at_call 21; exact C6 _ _))))
                  refine wpQuiet_nil ?_
                  intro _ hw'
                  obtain ⟨⟨dq, osq⟩, hw''⟩ := hw'
                  subst hw''
                  clear k0 k1 k2 k3 k4 k5 k6 k7
                  go_wp2_with fail
                  go_ret
                  exact ⟨rfl, HO.out.trans (below_regrown _ dq osq)⟩
theorem PlanNodes_calls (W : World) (c : Cf) (vp vl : Value) (hw : Wide c) (hp : IntsAt W .i64 vp c.ps) (hl : IntsAt W .i64 vl c.ls) (x : Int) (x0 : 0 ≤ x) (x1 : x ≤ 255) (y : Int) (y0 : 0 ≤ y) (y1 : y ≤ 255) :
    Calls Try.prog 6 #[cfV c vp vl, .int .u8 x, .int .u8 y] W fun e w' => e = .returned (.bool true) ∧ Below W.heap.size W w' := by
  by_cases hr : c.Rt
  · exact PlanNodes_main W c ⟨hw.wf (by have := hr.n1; omega) (by have := hr.n1; have := hr.ll; omega), hr, hp, hl⟩ x x0 x1 y y0 y1
  · exact PlanNodes_wrong W c hw hp hl hr x x0 x1 y y0 y1
end Go.Proofs.Ytnpjafiedbigaaa
