/- plan.of, tenants. Written by tools/gen_plan.py. -/
import Derived.Test.YtljimbkafijnnaaPlan
namespace Go.Proofs.Ytljimbkafijnnaa
open Go.ChangeShapes Go.WideShapes Go.ChangeAt Go.RowKit Go.Shelf
set_option linter.unusedVariables false
variable {w0 w w' W : World} {F0 : Nat → Prop} {L : List Asn} {vp vl : Value} {pp pl : Option Addr} {np cp nl cl : Nat}
theorem of_q (c : Cf) (v : Int) (w : World) : Calls Try.prog 80 #[cfV c (.slice pp np cp) (.slice pl nl cl), .int .i64 v] w fun e w' => e = .returned (.agg (tnA c (.slice pp np cp) (.slice pl nl cl) v)) ∧ Below w.heap.size w w' := by
  go_enter Try.func80, Try.ntmps80
  go_wp2_with fail
  refine bodyPost_ret (v := .agg (tnA c (.slice pp np cp) (.slice pl nl cl) v)) (by simp [results, Try.results80, go_sem]) rfl ⟨rfl, ((Stp.refl w).alloc _).alloc _⟩
theorem word_q (c : Cf) (hs : Sm c) (v : Int) (v0 : 0 ≤ v) (v1 : v ≤ 12) (b : Int) (b0 : 0 ≤ b) (b1 : b ≤ 100) (w : World) : Calls Try.prog 81 #[.agg (tnA c (.slice pp np cp) (.slice pl nl cl) v), .int .i64 b] w fun e w' => e = .returned (.int .i64 (lim c v + b)) ∧ Below w.heap.size w w' := by
  have HC := fun w => Lib.hid (place_q (vp := .slice pp np cp) (vl := .slice pl nl cl) c hs v v0 v1 w)
  obtain ⟨l0, l1⟩ := lim_bd hs v0 (by omega : v ≤ 13)
  clear hs
  generalize lim c v = P at *
  go_enter Try.func81, Try.ntmps81
  go_wp2_with fail
  refine (HC _).out.mono ?_
  rintro e w1 ⟨rfl, hB⟩
  have HB := Lib.hid (((Stp.refl w).alloc _).trans hB)
  clear hB HC
  go_wp2_with fail
  go_ret
  exact ⟨rfl, HB.out⟩
theorem Limit_q (c : Cf) (hs : Sm c) (v : Int) (v0 : 0 ≤ v) (v1 : v ≤ 12) (w : World) : Calls Try.prog 56 #[cfV c (.slice pp np cp) (.slice pl nl cl), .int .i64 v] w fun e w' => e = .returned (.int .i64 (lim c v)) ∧ Below w.heap.size w w' := by
  have H1 := fun w => Lib.hid (of_q (pp := pp) (np := np) (cp := cp) (pl := pl) (nl := nl) (cl := cl) c v w)
  have H2 := fun w => Lib.hid (word_q (pp := pp) (np := np) (cp := cp) (pl := pl) (nl := nl) (cl := cl) c hs v v0 v1 (0) (by omega) (by omega) w)
  clear hs
  go_enter Try.func56, Try.ntmps56
  go_wp2_with fail
  refine (H1 _).out.mono ?_
  rintro e w1 ⟨rfl, hB⟩
  have HB := Lib.hid (((Stp.refl w).alloc _).trans hB)
  clear hB H1
  go_wp2_with fail
  refine (H2 _).out.mono ?_
  rintro e w2 ⟨rfl, hB⟩
  have HB2 := Lib.hid (HB.out.trans hB)
  clear hB HB H2
  go_wp2_with fail
  go_ret
  exact ⟨by simp, HB2.out⟩
theorem Avail_q (c : Cf) (hs : Sm c) (v : Int) (v0 : 0 ≤ v) (v1 : v ≤ 12) (w : World) : Calls Try.prog 57 #[cfV c (.slice pp np cp) (.slice pl nl cl), .int .i64 v] w fun e w' => e = .returned (.int .i64 (lim c v + 1)) ∧ Below w.heap.size w w' := by
  have H1 := fun w => Lib.hid (of_q (pp := pp) (np := np) (cp := cp) (pl := pl) (nl := nl) (cl := cl) c v w)
  have H2 := fun w => Lib.hid (word_q (pp := pp) (np := np) (cp := cp) (pl := pl) (nl := nl) (cl := cl) c hs v v0 v1 (1) (by omega) (by omega) w)
  clear hs
  go_enter Try.func57, Try.ntmps57
  go_wp2_with fail
  refine (H1 _).out.mono ?_
  rintro e w1 ⟨rfl, hB⟩
  have HB := Lib.hid (((Stp.refl w).alloc _).trans hB)
  clear hB H1
  go_wp2_with fail
  refine (H2 _).out.mono ?_
  rintro e w2 ⟨rfl, hB⟩
  have HB2 := Lib.hid (HB.out.trans hB)
  clear hB HB H2
  go_wp2_with fail
  go_ret
  exact ⟨rfl, HB2.out⟩
theorem Counter_q (c : Cf) (hs : Sm c) (v : Int) (v0 : 0 ≤ v) (v1 : v ≤ 12) (w : World) : Calls Try.prog 58 #[cfV c (.slice pp np cp) (.slice pl nl cl), .int .i64 v] w fun e w' => e = .returned (.int .i64 (lim c v + 2 + c.st)) ∧ Below w.heap.size w w' := by
  have H1 := fun w => Lib.hid (of_q (pp := pp) (np := np) (cp := cp) (pl := pl) (nl := nl) (cl := cl) c v w)
  obtain ⟨st0, st1⟩ := hs
  have H2 := fun w => Lib.hid (word_q (pp := pp) (np := np) (cp := cp) (pl := pl) (nl := nl) (cl := cl) c ⟨st0, st1⟩ v v0 v1 (2 + c.st) (by omega) (by omega) w)
  have H3 := fun w => Lib.hid (counterBehind_q (vp := .slice pp np cp) (vl := .slice pl nl cl) c ⟨st0, st1⟩ w)
  go_enter Try.func58, Try.ntmps58
  go_wp2_with fail
  refine (H1 _).out.mono ?_
  rintro e w1 ⟨rfl, hB⟩
  have HB := Lib.hid ((((Stp.refl w).alloc _).trans hB).alloc (.cells (tnA c (.slice pp np cp) (.slice pl nl cl) v) 109))
  clear hB H1
  go_wp2_with fail
  have k0 := cell_regrown (cells9 109 w1 c (.slice pp np cp) (.slice pl nl cl) v 0 _ rfl)
  have k1 := cell_regrown (cells9 109 w1 c (.slice pp np cp) (.slice pl nl cl) v 1 _ rfl)
  have k2 := cell_regrown (cells9 109 w1 c (.slice pp np cp) (.slice pl nl cl) v 2 _ rfl)
  have k3 := cell_regrown (cells9 109 w1 c (.slice pp np cp) (.slice pl nl cl) v 3 _ rfl)
  have k4 := cell_regrown (cells9 109 w1 c (.slice pp np cp) (.slice pl nl cl) v 4 _ rfl)
  have k5 := cell_regrown (cells9 109 w1 c (.slice pp np cp) (.slice pl nl cl) v 5 _ rfl)
  have k6 := cell_regrown (cells9 109 w1 c (.slice pp np cp) (.slice pl nl cl) v 6 _ rfl)
  have k7 := cell_regrown (cells9 109 w1 c (.slice pp np cp) (.slice pl nl cl) v 7 _ rfl)
  have k8 := cell_regrown (cells9 109 w1 c (.slice pp np cp) (.slice pl nl cl) v 8 _ rfl)
  generalize w1.heap.size = B at *
  generalize w1.alloc (.cells (tnA c (.slice pp np cp) (.slice pl nl cl) v) 109) = w2 at *
  have C2 := fun d os => Calls.regrown_of (H2 (Go.Sort.grow (redrawn w2 d) os)).out
  have C3 := fun d os => Calls.regrown_of (H3 (Go.Sort.grow (redrawn w2 d) os)).out
  clear H2 H3
  refine wp_region_quiet_below (by kernel_rfl) (by kernel_rfl) ?_
  repeat (go_big_quiet_step ((first | (go_at_call 81; exact C2 _ _) | (go_at_call 82; exact C3 _ _))))
  refine wpQuiet_nil ?_
  intro _ hw'
  obtain ⟨⟨dq, osq⟩, hw''⟩ := hw'
  subst hw''
  clear k0 k1 k2 k3 k4 k5 k6 k7 k8
  go_wp2_with fail
  go_ret
  exact ⟨by rw [Int.add_assoc]; rfl, HB.out.trans (below_regrown _ dq osq)⟩
theorem Ticket_q (c : Cf) (hs : Sm c) (hn : np ≤ 12) (t : Int) (t0 : 0 ≤ t) (t1 : t ≤ 16) (w : World) : Calls Try.prog 28 #[cfV c (.slice pp np cp) (.slice pl nl cl), .int .i64 t] w fun e w' => e = .returned (.int .i64 (lim c np + 2 * t)) ∧ Below w.heap.size w w' := by
  have H1 := fun w => Lib.hid (place_q (vp := .slice pp np cp) (vl := .slice pl nl cl) c hs np (by omega) (by omega) w)
  obtain ⟨l0, l1⟩ := lim_bd hs (show (0 : Int) ≤ np by omega) (by omega)
  clear hs
  generalize lim c np = Q at *
  go_enter Try.func28, Try.ntmps28
  go_wp2_with fail
  refine (H1 _).out.mono ?_
  rintro e w1 ⟨rfl, hB⟩
  have HB := Lib.hid (((Stp.refl w).alloc _).trans hB)
  clear hB H1
  go_wp2_with fail
  go_ret
  exact ⟨rfl, HB.out⟩
theorem Size_q (c : Cf) (hs : Sm c) (hn : np ≤ 12) (t0 : 0 ≤ c.ti) (t1 : c.ti ≤ 16) (w : World) : Calls Try.prog 54 #[cfV c (.slice pp np cp) (.slice pl nl cl)] w fun e w' => e = .returned (.int .i64 (lim c np + 2 * c.ti)) ∧ Below w.heap.size w w' := by
  have H1 := fun w => Lib.hid (Ticket_q (pp := pp) (np := np) (cp := cp) (pl := pl) (nl := nl) (cl := cl) c hs hn c.ti t0 t1 w)
  clear hs
  go_enter Try.func54, Try.ntmps54
  go_wp2_with fail
  refine (H1 _).out.mono ?_
  rintro e w1 ⟨rfl, hB⟩
  have HB := Lib.hid (((Stp.refl w).alloc _).trans hB)
  clear hB H1
  go_wp2_with fail
  go_ret
  exact ⟨rfl, HB.out⟩
theorem rLimit_q (c : Cf) (hs : Sm c) (v : Int) (v0 : 0 ≤ v) (v1 : v ≤ 12) (w : World) : Calls Try.prog 47 #[cfV c (.slice pp np cp) (.slice pl nl cl), .int .i64 v] w fun e w' => e = .returned (.int .i64 (lim c v)) ∧ Below w.heap.size w w' := by
  have hl : lim c v = v * (6 + 2 * c.st) := rfl
  obtain ⟨l0, l1⟩ := lim_bd hs v0 (by omega : v ≤ 13)
  obtain ⟨s0, s1⟩ := hs
  rw [hl] at l0 l1 ⊢
  clear hl
  go_enter Try.func47, Try.ntmps47
  go_wp2
  go_ret
  exact ⟨rfl, (Stp.refl w).alloc _⟩
theorem rAvail_q (c : Cf) (hs : Sm c) (v : Int) (v0 : 0 ≤ v) (v1 : v ≤ 12) (w : World) : Calls Try.prog 62 #[cfV c (.slice pp np cp) (.slice pl nl cl), .int .i64 v] w fun e w' => e = .returned (.int .i64 (lim c v + 1)) ∧ Below w.heap.size w w' := by
  have H1 := fun w => Lib.hid (rLimit_q (pp := pp) (np := np) (cp := cp) (pl := pl) (nl := nl) (cl := cl) c hs v v0 v1 w)
  obtain ⟨l0, l1⟩ := lim_bd hs v0 (by omega : v ≤ 13)
  obtain ⟨st0, st1⟩ := hs
  generalize lim c v = Q at *
  go_enter Try.func62, Try.ntmps62
  go_wp2_with fail
  refine (H1 _).out.mono ?_
  rintro e w1 ⟨rfl, hB⟩
  have HB := Lib.hid (((Stp.refl w).alloc _).trans hB)
  have c1 : w1.cell? ⟨w.heap.size, 1, none⟩ = some (.int .i64 c.st) := Stp.cell hB (cellsT _ w c _ _ 1 _ rfl)
  clear hB H1
  go_wp2_with fail
  go_ret
  exact ⟨rfl, HB.out⟩
theorem rCounter_q (c : Cf) (hs : Sm c) (v : Int) (v0 : 0 ≤ v) (v1 : v ≤ 12) (w : World) : Calls Try.prog 63 #[cfV c (.slice pp np cp) (.slice pl nl cl), .int .i64 v] w fun e w' => e = .returned (.int .i64 (lim c v + 2 + c.st)) ∧ Below w.heap.size w w' := by
  have H1 := fun d os => Calls.regrown_of (rLimit_q (pp := pp) (np := np) (cp := cp) (pl := pl) (nl := nl) (cl := cl) c hs v v0 v1 (Go.Sort.grow (redrawn (w.alloc (cfO c (.slice pp np cp) (.slice pl nl cl))) d) os))
  obtain ⟨l0, l1⟩ := lim_bd hs v0 (by omega : v ≤ 13)
  have k0 := cell_regrown (cellsT 24 w c (.slice pp np cp) (.slice pl nl cl) 0 _ rfl)
  have k1 := cell_regrown (cellsT 24 w c (.slice pp np cp) (.slice pl nl cl) 1 _ rfl)
  have k2 := cell_regrown (cellsT 24 w c (.slice pp np cp) (.slice pl nl cl) 2 _ rfl)
  have k3 := cell_regrown (cellsT 24 w c (.slice pp np cp) (.slice pl nl cl) 3 _ rfl)
  have k4 := cell_regrown (cellsT 24 w c (.slice pp np cp) (.slice pl nl cl) 4 _ rfl)
  have k5 := cell_regrown (cellsT 24 w c (.slice pp np cp) (.slice pl nl cl) 5 _ rfl)
  have k6 := cell_regrown (cellsT 24 w c (.slice pp np cp) (.slice pl nl cl) 6 _ rfl)
  have k7 := cell_regrown (cellsT 24 w c (.slice pp np cp) (.slice pl nl cl) 7 _ rfl)
  obtain ⟨st0, st1⟩ := hs
  generalize lim c v = Q at *
  go_enter Try.func63, Try.ntmps63
  go_wp2_with fail
  refine wp_region_quiet_below (by kernel_rfl) (by kernel_rfl) ?_
  repeat (go_big_quiet_step ((go_at_call 47; exact H1 _ _)))
  refine wpQuiet_nil ?_
  intro _ hw'
  obtain ⟨⟨dq, osq⟩, hw''⟩ := hw'
  subst hw''
  clear k0 k1 k2 k3 k4 k5 k6 k7
  go_wp2_with fail
  go_ret
  exact ⟨rfl, ((Stp.refl w).alloc _).trans (below_regrown _ dq osq)⟩
theorem rTicket_q (c : Cf) (hs : Sm c) (hn : np ≤ 12) (t : Int) (t0 : 0 ≤ t) (t1 : t ≤ 16) (w : World) : Calls Try.prog 27 #[cfV c (.slice pp np cp) (.slice pl nl cl), .int .i64 t] w fun e w' => e = .returned (.int .i64 (lim c np + 2 * t)) ∧ Below w.heap.size w w' := by
  have H1 := fun w => Lib.hid (rLimit_q (pp := pp) (np := np) (cp := cp) (pl := pl) (nl := nl) (cl := cl) c hs np (by omega) (by omega) w)
  obtain ⟨l0, l1⟩ := lim_bd hs (show (0 : Int) ≤ np by omega) (by omega)
  clear hs
  generalize lim c np = Q at *
  go_enter Try.func27, Try.ntmps27
  go_wp2_with fail
  refine (H1 _).out.mono ?_
  rintro e w1 ⟨rfl, hB⟩
  have HB := Lib.hid (((Stp.refl w).alloc _).trans hB)
  clear hB H1
  go_wp2_with fail
  go_ret
  exact ⟨rfl, HB.out⟩
theorem rSize_q (c : Cf) (hs : Sm c) (hn : np ≤ 12) (t0 : 0 ≤ c.ti) (t1 : c.ti ≤ 16) (w : World) : Calls Try.prog 61 #[cfV c (.slice pp np cp) (.slice pl nl cl)] w fun e w' => e = .returned (.int .i64 (lim c np + 2 * c.ti)) ∧ Below w.heap.size w w' := by
  have H1 := fun w => Lib.hid (rTicket_q (pp := pp) (np := np) (cp := cp) (pl := pl) (nl := nl) (cl := cl) c hs hn c.ti t0 t1 w)
  clear hs
  go_enter Try.func61, Try.ntmps61
  go_wp2_with fail
  refine (H1 _).out.mono ?_
  rintro e w1 ⟨rfl, hB⟩
  have HB := Lib.hid (((Stp.refl w).alloc _).trans hB)
  clear hB H1
  go_wp2_with fail
  go_ret
  exact ⟨rfl, HB.out⟩
end Go.Proofs.Ytljimbkafijnnaa
