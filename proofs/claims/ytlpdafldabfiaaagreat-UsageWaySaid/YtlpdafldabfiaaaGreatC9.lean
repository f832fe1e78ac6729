/- Texts of elder layers, one behind the other: Plan, PlanOf, MemRefNew, PlanFresh. -/
import Derived.Test.YtlpdafldabfiaaaGreatC8
import Derived.Deep.RegionHeld3
import Derived.Lib.QuietBelow
section
namespace Go.Proofs.YtlpdafldabfiaaaGreat
open Go.ChangeShapes Go.WideShapes Go.ChangeAt Go.RowKit Go.Shelf
set_option linter.unusedVariables false
variable {w0 w w' W : World} {F0 : Nat → Prop} {L : List Asn} {vp vl : Value} {pp pl : Option Addr} {np cp nl cl : Nat}
def each (c : Cf) : Int := 6 + 2 * c.st
def lim (c : Cf) (v : Int) : Int := v * each c
def Sm (c : Cf) : Prop := 1 ≤ c.st ∧ c.st ≤ 8
theorem Cf.Rt.sm {c : Cf} (h : c.Rt) : Sm c := by
  have := h.st
  unfold Pow at this
  unfold Sm
  omega
theorem each_bd {c : Cf} (h : Sm c) : 8 ≤ each c ∧ each c ≤ 22 := by unfold Sm at h; unfold each; omega
theorem lim_bd {c : Cf} (h : Sm c) {v : Int} (h0 : 0 ≤ v) (h1 : v ≤ 13) : 0 ≤ lim c v ∧ lim c v ≤ 286 := by
  have := each_bd h
  unfold lim
  have a : 0 ≤ v * each c := Int.mul_nonneg h0 (by omega)
  have b : v * each c ≤ 13 * 22 := Int.mul_le_mul h1 (by omega) (by omega) (by omega)
  omega
abbrev cfT (T : TypeId) (c : Cf) (vp vl : Value) : Obj := .cells #[.int .i64 c.th, .int .i64 c.st, .int .i64 c.ga, .int .i64 c.le, .int .i64 c.re, .int .i64 c.ti, vp, vl] T (0, 0)
theorem cellsT (T : TypeId) (w : World) (c : Cf) (vp vl : Value) (k : Nat) (v : Value) (h : (#[.int .i64 c.th, .int .i64 c.st, .int .i64 c.ga, .int .i64 c.le, .int .i64 c.re, .int .i64 c.ti, vp, vl] : Array Value)[k]? = some v) :
    (w.alloc (cfT T c vp vl)).cell? ⟨w.heap.size, k, none⟩ = some v := by rw [World.cell?_alloc_new]; exact h
abbrev tnA (c : Cf) (vp vl : Value) (v : Int) : Array Value := #[.int .i64 c.th, .int .i64 c.st, .int .i64 c.ga, .int .i64 c.le, .int .i64 c.re, .int .i64 c.ti, vp, vl, .int .i64 v]
theorem cells9 (T : TypeId) (w : World) (c : Cf) (vp vl : Value) (v : Int) (k : Nat) (u : Value) (h : (tnA c vp vl v)[k]? = some u) :
    (w.alloc (.cells (tnA c vp vl v) T)).cell? ⟨w.heap.size, k, none⟩ = some u := by rw [World.cell?_alloc_new]; exact h
theorem counterBehind_q (c : Cf) (hs : Sm c) (w : World) : Calls Tryz.prog 70 #[cfV c vp vl] w fun e w' => e = .returned (.int .i64 (2 + c.st)) ∧ Below w.heap.size w w' := by
  obtain ⟨s0, s1⟩ := hs
  go_enter Tryz.func70, Tryz.ntmps70
  go_wp2
  go_ret
  exact ⟨rfl, (Stp.refl w).alloc _⟩
theorem nodeWords_q (c : Cf) (hs : Sm c) (w : World) : Calls Tryz.prog 136 #[cfV c vp vl] w fun e w' => e = .returned (.int .i64 (each c)) ∧ Below w.heap.size w w' := by
  have HC := fun d os => Calls.regrown_of (counterBehind_q (vp := vp) (vl := vl) c hs (Go.Sort.grow (redrawn (w.alloc (cfT 112 c vp vl)) d) os))
  have he : 2 + c.st + 4 + c.st = each c := by unfold each; omega
  have k0 := cell_regrown (cellsT 112 w c vp vl 0 _ rfl)
  have k1 := cell_regrown (cellsT 112 w c vp vl 1 _ rfl)
  have k2 := cell_regrown (cellsT 112 w c vp vl 2 _ rfl)
  have k3 := cell_regrown (cellsT 112 w c vp vl 3 _ rfl)
  have k4 := cell_regrown (cellsT 112 w c vp vl 4 _ rfl)
  have k5 := cell_regrown (cellsT 112 w c vp vl 5 _ rfl)
  have k6 := cell_regrown (cellsT 112 w c vp vl 6 _ rfl)
  have k7 := cell_regrown (cellsT 112 w c vp vl 7 _ rfl)
  obtain ⟨s0, s1⟩ := hs
  go_enter Tryz.func136, Tryz.ntmps136
  go_wp2_with fail
  refine wp_region_quiet_below (by kernel_rfl) (by kernel_rfl) ?_
  repeat (go_big_quiet_step ((go_at_call 70; exact HC _ _)))
  refine wpQuiet_nil ?_
  intro _ hw'
  obtain ⟨⟨dq, osq⟩, hw''⟩ := hw'
  subst hw''
  clear k0 k1 k2 k3 k4 k5 k6 k7
  go_wp2_with fail
  go_ret
  exact ⟨rfl, ((Stp.refl w).alloc _).trans (below_regrown _ dq osq)⟩
theorem place_q (c : Cf) (hs : Sm c) (v : Int) (v0 : 0 ≤ v) (v1 : v ≤ 12) (w : World) : Calls Tryz.prog 112 #[cfV c vp vl, .int .i64 v] w fun e w' => e = .returned (.int .i64 (lim c v)) ∧ Below w.heap.size w w' := by
  have HC := fun w => Lib.hid (nodeWords_q (vp := vp) (vl := vl) c hs w)
  obtain ⟨b0, b1⟩ := lim_bd hs v0 (by omega)
  have hl : lim c v = v * each c := rfl
  rw [hl] at b0 b1 ⊢
  clear hs hl
  generalize each c = E at *
  go_enter Tryz.func112, Tryz.ntmps112
  go_wp2_with fail
  refine (HC _).out.mono ?_
  rintro e w1 ⟨rfl, hB⟩
  have HB := Lib.hid (((Stp.refl w).alloc _).trans hB)
  clear hB HC
  go_wp2_with fail
  go_ret
  exact ⟨rfl, HB.out⟩
end Go.Proofs.YtlpdafldabfiaaaGreat
end
section
namespace Go.Proofs.YtlpdafldabfiaaaGreat
open Go.ChangeShapes Go.WideShapes Go.ChangeAt Go.RowKit Go.Shelf
set_option linter.unusedVariables false
variable {w0 w w' W : World} {F0 : Nat → Prop} {L : List Asn} {vp vl : Value} {pp pl : Option Addr} {np cp nl cl : Nat}
theorem of_q (c : Cf) (v : Int) (w : World) : Calls Tryz.prog 68 #[cfV c (.slice pp np cp) (.slice pl nl cl), .int .i64 v] w fun e w' => e = .returned (.agg (tnA c (.slice pp np cp) (.slice pl nl cl) v)) ∧ Below w.heap.size w w' := by
  go_enter Tryz.func68, Tryz.ntmps68
  go_wp2_with fail
  refine bodyPost_ret (v := .agg (tnA c (.slice pp np cp) (.slice pl nl cl) v)) (by simp [results, Tryz.results68, go_sem]) rfl ⟨rfl, ((Stp.refl w).alloc _).alloc _⟩
theorem word_q (c : Cf) (hs : Sm c) (v : Int) (v0 : 0 ≤ v) (v1 : v ≤ 12) (b : Int) (b0 : 0 ≤ b) (b1 : b ≤ 100) (w : World) : Calls Tryz.prog 69 #[.agg (tnA c (.slice pp np cp) (.slice pl nl cl) v), .int .i64 b] w fun e w' => e = .returned (.int .i64 (lim c v + b)) ∧ Below w.heap.size w w' := by
  have HC := fun w => Lib.hid (place_q (vp := .slice pp np cp) (vl := .slice pl nl cl) c hs v v0 v1 w)
  obtain ⟨l0, l1⟩ := lim_bd hs v0 (by omega : v ≤ 13)
  clear hs
  generalize lim c v = P at *
  go_enter Tryz.func69, Tryz.ntmps69
  go_wp2_with fail
  refine (HC _).out.mono ?_
  rintro e w1 ⟨rfl, hB⟩
  have HB := Lib.hid (((Stp.refl w).alloc _).trans hB)
  clear hB HC
  go_wp2_with fail
  go_ret
  exact ⟨rfl, HB.out⟩
theorem Limit_q (c : Cf) (hs : Sm c) (v : Int) (v0 : 0 ≤ v) (v1 : v ≤ 12) (w : World) : Calls Tryz.prog 50 #[cfV c (.slice pp np cp) (.slice pl nl cl), .int .i64 v] w fun e w' => e = .returned (.int .i64 (lim c v)) ∧ Below w.heap.size w w' := by
  have H1 := fun w => Lib.hid (of_q (pp := pp) (np := np) (cp := cp) (pl := pl) (nl := nl) (cl := cl) c v w)
  have H2 := fun w => Lib.hid (word_q (pp := pp) (np := np) (cp := cp) (pl := pl) (nl := nl) (cl := cl) c hs v v0 v1 (0) (by omega) (by omega) w)
  clear hs
  go_enter Tryz.func50, Tryz.ntmps50
  go_wp2_with fail
  refine (H1 _).out.mono ?_
  rintro e w1 ⟨rfl, hB⟩
  have HB := Lib.hid (((Stp.refl w).alloc _).trans hB)
  clear hB H1
  go_wp2_with fail
  refine (H2 _).out.mono ?_
  rintro e w2 ⟨rfl, hB⟩
  have HB2 := Lib.hid (HB.out.trans hB)
  clear hB HB H2
  go_wp2_with fail
  go_ret
  exact ⟨by simp, HB2.out⟩
theorem Avail_q (c : Cf) (hs : Sm c) (v : Int) (v0 : 0 ≤ v) (v1 : v ≤ 12) (w : World) : Calls Tryz.prog 51 #[cfV c (.slice pp np cp) (.slice pl nl cl), .int .i64 v] w fun e w' => e = .returned (.int .i64 (lim c v + 1)) ∧ Below w.heap.size w w' := by
  have H1 := fun w => Lib.hid (of_q (pp := pp) (np := np) (cp := cp) (pl := pl) (nl := nl) (cl := cl) c v w)
  have H2 := fun w => Lib.hid (word_q (pp := pp) (np := np) (cp := cp) (pl := pl) (nl := nl) (cl := cl) c hs v v0 v1 (1) (by omega) (by omega) w)
  clear hs
  go_enter Tryz.func51, Tryz.ntmps51
  go_wp2_with fail
  refine (H1 _).out.mono ?_
  rintro e w1 ⟨rfl, hB⟩
  have HB := Lib.hid (((Stp.refl w).alloc _).trans hB)
  clear hB H1
  go_wp2_with fail
  refine (H2 _).out.mono ?_
  rintro e w2 ⟨rfl, hB⟩
  have HB2 := Lib.hid (HB.out.trans hB)
  clear hB HB H2
  go_wp2_with fail
  go_ret
  exact ⟨rfl, HB2.out⟩
theorem Lease_q (c : Cf) (hs : Sm c) (v : Int) (v0 : 0 ≤ v) (v1 : v ≤ 12) (s : Int) (s0 : 0 ≤ s) (s1 : s ≤ 8) (w : World) : Calls Tryz.prog 96 #[cfV c (.slice pp np cp) (.slice pl nl cl), .int .i64 v, .int .i64 s] w fun e w' => e = .returned (.int .i64 (lim c v + 2 + s)) ∧ Below w.heap.size w w' := by
  have H1 := fun w => Lib.hid (of_q (pp := pp) (np := np) (cp := cp) (pl := pl) (nl := nl) (cl := cl) c v w)
  have H2 := fun w => Lib.hid (word_q (pp := pp) (np := np) (cp := cp) (pl := pl) (nl := nl) (cl := cl) c hs v v0 v1 (2 + s) (by omega) (by omega) w)
  clear hs
  go_enter Tryz.func96, Tryz.ntmps96
  go_wp2_with fail
  refine (H1 _).out.mono ?_
  rintro e w1 ⟨rfl, hB⟩
  have HB := Lib.hid (((Stp.refl w).alloc _).trans hB)
  clear hB H1
  go_wp2_with fail
  refine (H2 _).out.mono ?_
  rintro e w2 ⟨rfl, hB⟩
  have HB2 := Lib.hid (HB.out.trans hB)
  clear hB HB H2
  go_wp2_with fail
  go_ret
  exact ⟨by rw [Int.add_assoc]; rfl, HB2.out⟩
theorem Counter_q (c : Cf) (hs : Sm c) (v : Int) (v0 : 0 ≤ v) (v1 : v ≤ 12) (w : World) : Calls Tryz.prog 33 #[cfV c (.slice pp np cp) (.slice pl nl cl), .int .i64 v] w fun e w' => e = .returned (.int .i64 (lim c v + 2 + c.st)) ∧ Below w.heap.size w w' := by
  have H1 := fun w => Lib.hid (of_q (pp := pp) (np := np) (cp := cp) (pl := pl) (nl := nl) (cl := cl) c v w)
  obtain ⟨st0, st1⟩ := hs
  have H2 := fun w => Lib.hid (word_q (pp := pp) (np := np) (cp := cp) (pl := pl) (nl := nl) (cl := cl) c ⟨st0, st1⟩ v v0 v1 (2 + c.st) (by omega) (by omega) w)
  have H3 := fun w => Lib.hid (counterBehind_q (vp := .slice pp np cp) (vl := .slice pl nl cl) c ⟨st0, st1⟩ w)
  go_enter Tryz.func33, Tryz.ntmps33
  go_wp2_with fail
  refine (H1 _).out.mono ?_
  rintro e w1 ⟨rfl, hB⟩
  have HB := Lib.hid ((((Stp.refl w).alloc _).trans hB).alloc (.cells (tnA c (.slice pp np cp) (.slice pl nl cl) v) 114))
  clear hB H1
  go_wp2_with fail
  have k0 := cell_regrown (cells9 114 w1 c (.slice pp np cp) (.slice pl nl cl) v 0 _ rfl)
  have k1 := cell_regrown (cells9 114 w1 c (.slice pp np cp) (.slice pl nl cl) v 1 _ rfl)
  have k2 := cell_regrown (cells9 114 w1 c (.slice pp np cp) (.slice pl nl cl) v 2 _ rfl)
  have k3 := cell_regrown (cells9 114 w1 c (.slice pp np cp) (.slice pl nl cl) v 3 _ rfl)
  have k4 := cell_regrown (cells9 114 w1 c (.slice pp np cp) (.slice pl nl cl) v 4 _ rfl)
  have k5 := cell_regrown (cells9 114 w1 c (.slice pp np cp) (.slice pl nl cl) v 5 _ rfl)
  have k6 := cell_regrown (cells9 114 w1 c (.slice pp np cp) (.slice pl nl cl) v 6 _ rfl)
  have k7 := cell_regrown (cells9 114 w1 c (.slice pp np cp) (.slice pl nl cl) v 7 _ rfl)
  have k8 := cell_regrown (cells9 114 w1 c (.slice pp np cp) (.slice pl nl cl) v 8 _ rfl)
  generalize w1.heap.size = B at *
  generalize w1.alloc (.cells (tnA c (.slice pp np cp) (.slice pl nl cl) v) 114) = w2 at *
  have C2 := fun d os => Calls.regrown_of (H2 (Go.Sort.grow (redrawn w2 d) os)).out
  have C3 := fun d os => Calls.regrown_of (H3 (Go.Sort.grow (redrawn w2 d) os)).out
  clear H2 H3
  refine wp_region_quiet_below (by kernel_rfl) (by kernel_rfl) ?_
  repeat (go_big_quiet_step ((first | (go_at_call 69; exact C2 _ _) | (go_at_call 70; exact C3 _ _))))
  refine wpQuiet_nil ?_
  intro _ hw'
  obtain ⟨⟨dq, osq⟩, hw''⟩ := hw'
  subst hw''
  clear k0 k1 k2 k3 k4 k5 k6 k7 k8
  go_wp2_with fail
  go_ret
  exact ⟨by rw [Int.add_assoc]; rfl, HB.out.trans (below_regrown _ dq osq)⟩
theorem Ticket_q (c : Cf) (hs : Sm c) (hn : np ≤ 12) (t : Int) (t0 : 0 ≤ t) (t1 : t ≤ 16) (w : World) : Calls Tryz.prog 90 #[cfV c (.slice pp np cp) (.slice pl nl cl), .int .i64 t] w fun e w' => e = .returned (.int .i64 (lim c np + 2 * t)) ∧ Below w.heap.size w w' := by
  have H1 := fun w => Lib.hid (place_q (vp := .slice pp np cp) (vl := .slice pl nl cl) c hs np (by omega) (by omega) w)
  obtain ⟨l0, l1⟩ := lim_bd hs (show (0 : Int) ≤ np by omega) (by omega)
  clear hs
  generalize lim c np = Q at *
  go_enter Tryz.func90, Tryz.ntmps90
  go_wp2_with fail
  refine (H1 _).out.mono ?_
  rintro e w1 ⟨rfl, hB⟩
  have HB := Lib.hid (((Stp.refl w).alloc _).trans hB)
  clear hB H1
  go_wp2_with fail
  go_ret
  exact ⟨rfl, HB.out⟩
theorem Size_q (c : Cf) (hs : Sm c) (hn : np ≤ 12) (t0 : 0 ≤ c.ti) (t1 : c.ti ≤ 16) (w : World) : Calls Tryz.prog 43 #[cfV c (.slice pp np cp) (.slice pl nl cl)] w fun e w' => e = .returned (.int .i64 (lim c np + 2 * c.ti)) ∧ Below w.heap.size w w' := by
  have H1 := fun w => Lib.hid (Ticket_q (pp := pp) (np := np) (cp := cp) (pl := pl) (nl := nl) (cl := cl) c hs hn c.ti t0 t1 w)
  clear hs
  go_enter Tryz.func43, Tryz.ntmps43
  go_wp2_with fail
  refine (H1 _).out.mono ?_
  rintro e w1 ⟨rfl, hB⟩
  have HB := Lib.hid (((Stp.refl w).alloc _).trans hB)
  clear hB H1
  go_wp2_with fail
  go_ret
  exact ⟨rfl, HB.out⟩
theorem rLimit_q (c : Cf) (hs : Sm c) (v : Int) (v0 : 0 ≤ v) (v1 : v ≤ 12) (w : World) : Calls Tryz.prog 38 #[cfV c (.slice pp np cp) (.slice pl nl cl), .int .i64 v] w fun e w' => e = .returned (.int .i64 (lim c v)) ∧ Below w.heap.size w w' := by
  have hl : lim c v = v * (6 + 2 * c.st) := rfl
  obtain ⟨l0, l1⟩ := lim_bd hs v0 (by omega : v ≤ 13)
  obtain ⟨s0, s1⟩ := hs
  rw [hl] at l0 l1 ⊢
  clear hl
  go_enter Tryz.func38, Tryz.ntmps38
  go_wp2
  go_ret
  exact ⟨rfl, (Stp.refl w).alloc _⟩
theorem rAvail_q (c : Cf) (hs : Sm c) (v : Int) (v0 : 0 ≤ v) (v1 : v ≤ 12) (w : World) : Calls Tryz.prog 80 #[cfV c (.slice pp np cp) (.slice pl nl cl), .int .i64 v] w fun e w' => e = .returned (.int .i64 (lim c v + 1)) ∧ Below w.heap.size w w' := by
  have H1 := fun w => Lib.hid (rLimit_q (pp := pp) (np := np) (cp := cp) (pl := pl) (nl := nl) (cl := cl) c hs v v0 v1 w)
  obtain ⟨l0, l1⟩ := lim_bd hs v0 (by omega : v ≤ 13)
  obtain ⟨st0, st1⟩ := hs
  generalize lim c v = Q at *
  go_enter Tryz.func80, Tryz.ntmps80
  go_wp2_with fail
  refine (H1 _).out.mono ?_
  rintro e w1 ⟨rfl, hB⟩
  have HB := Lib.hid (((Stp.refl w).alloc _).trans hB)
  have c1 : w1.cell? ⟨w.heap.size, 1, none⟩ = some (.int .i64 c.st) := Stp.cell hB (cellsT _ w c _ _ 1 _ rfl)
  clear hB H1
  go_wp2_with fail
  go_ret
  exact ⟨rfl, HB.out⟩
theorem rLease_q (c : Cf) (hs : Sm c) (v : Int) (v0 : 0 ≤ v) (v1 : v ≤ 12) (s : Int) (s0 : 0 ≤ s) (s1 : s ≤ 8) (w : World) : Calls Tryz.prog 97 #[cfV c (.slice pp np cp) (.slice pl nl cl), .int .i64 v, .int .i64 s] w fun e w' => e = .returned (.int .i64 (lim c v + 2 + s)) ∧ Below w.heap.size w w' := by
  have H1 := fun w => Lib.hid (rLimit_q (pp := pp) (np := np) (cp := cp) (pl := pl) (nl := nl) (cl := cl) c hs v v0 v1 w)
  obtain ⟨l0, l1⟩ := lim_bd hs v0 (by omega : v ≤ 13)
  obtain ⟨st0, st1⟩ := hs
  generalize lim c v = Q at *
  go_enter Tryz.func97, Tryz.ntmps97
  go_wp2_with fail
  refine (H1 _).out.mono ?_
  rintro e w1 ⟨rfl, hB⟩
  have HB := Lib.hid (((Stp.refl w).alloc _).trans hB)
  have c1 : w1.cell? ⟨w.heap.size, 1, none⟩ = some (.int .i64 c.st) := Stp.cell hB (cellsT _ w c _ _ 1 _ rfl)
  clear hB H1
  go_wp2_with fail
  go_ret
  exact ⟨rfl, HB.out⟩
theorem rCounter_q (c : Cf) (hs : Sm c) (v : Int) (v0 : 0 ≤ v) (v1 : v ≤ 12) (w : World) : Calls Tryz.prog 22 #[cfV c (.slice pp np cp) (.slice pl nl cl), .int .i64 v] w fun e w' => e = .returned (.int .i64 (lim c v + 2 + c.st)) ∧ Below w.heap.size w w' := by
  have H1 := fun d os => Calls.regrown_of (rLimit_q (pp := pp) (np := np) (cp := cp) (pl := pl) (nl := nl) (cl := cl) c hs v v0 v1 (Go.Sort.grow (redrawn (w.alloc (cfO c (.slice pp np cp) (.slice pl nl cl))) d) os))
  obtain ⟨l0, l1⟩ := lim_bd hs v0 (by omega : v ≤ 13)
  have k0 := cell_regrown (cellsT 24 w c (.slice pp np cp) (.slice pl nl cl) 0 _ rfl)
  have k1 := cell_regrown (cellsT 24 w c (.slice pp np cp) (.slice pl nl cl) 1 _ rfl)
  have k2 := cell_regrown (cellsT 24 w c (.slice pp np cp) (.slice pl nl cl) 2 _ rfl)
  have k3 := cell_regrown (cellsT 24 w c (.slice pp np cp) (.slice pl nl cl) 3 _ rfl)
  have k4 := cell_regrown (cellsT 24 w c (.slice pp np cp) (.slice pl nl cl) 4 _ rfl)
  have k5 := cell_regrown (cellsT 24 w c (.slice pp np cp) (.slice pl nl cl) 5 _ rfl)
  have k6 := cell_regrown (cellsT 24 w c (.slice pp np cp) (.slice pl nl cl) 6 _ rfl)
  have k7 := cell_regrown (cellsT 24 w c (.slice pp np cp) (.slice pl nl cl) 7 _ rfl)
  obtain ⟨st0, st1⟩ := hs
  generalize lim c v = Q at *
  go_enter Tryz.func22, Tryz.ntmps22
  go_wp2_with fail
  refine wp_region_quiet_below (by kernel_rfl) (by kernel_rfl) ?_
  repeat (go_big_quiet_step ((go_at_call 38; exact H1 _ _)))
  refine wpQuiet_nil ?_
  intro _ hw'
  obtain ⟨⟨dq, osq⟩, hw''⟩ := hw'
  subst hw''
  clear k0 k1 k2 k3 k4 k5 k6 k7
  go_wp2_with fail
  go_ret
  exact ⟨rfl, ((Stp.refl w).alloc _).trans (below_regrown _ dq osq)⟩
theorem rTicket_q (c : Cf) (hs : Sm c) (hn : np ≤ 12) (t : Int) (t0 : 0 ≤ t) (t1 : t ≤ 16) (w : World) : Calls Tryz.prog 39 #[cfV c (.slice pp np cp) (.slice pl nl cl), .int .i64 t] w fun e w' => e = .returned (.int .i64 (lim c np + 2 * t)) ∧ Below w.heap.size w w' := by
  have H1 := fun w => Lib.hid (rLimit_q (pp := pp) (np := np) (cp := cp) (pl := pl) (nl := nl) (cl := cl) c hs np (by omega) (by omega) w)
  obtain ⟨l0, l1⟩ := lim_bd hs (show (0 : Int) ≤ np by omega) (by omega)
  clear hs
  generalize lim c np = Q at *
  go_enter Tryz.func39, Tryz.ntmps39
  go_wp2_with fail
  refine (H1 _).out.mono ?_
  rintro e w1 ⟨rfl, hB⟩
  have HB := Lib.hid (((Stp.refl w).alloc _).trans hB)
  clear hB H1
  go_wp2_with fail
  go_ret
  exact ⟨rfl, HB.out⟩
theorem rSize_q (c : Cf) (hs : Sm c) (hn : np ≤ 12) (t0 : 0 ≤ c.ti) (t1 : c.ti ≤ 16) (w : World) : Calls Tryz.prog 89 #[cfV c (.slice pp np cp) (.slice pl nl cl)] w fun e w' => e = .returned (.int .i64 (lim c np + 2 * c.ti)) ∧ Below w.heap.size w w' := by
  have H1 := fun w => Lib.hid (rTicket_q (pp := pp) (np := np) (cp := cp) (pl := pl) (nl := nl) (cl := cl) c hs hn c.ti t0 t1 w)
  clear hs
  go_enter Tryz.func89, Tryz.ntmps89
  go_wp2_with fail
  refine (H1 _).out.mono ?_
  rintro e w1 ⟨rfl, hB⟩
  have HB := Lib.hid (((Stp.refl w).alloc _).trans hB)
  clear hB H1
  go_wp2_with fail
  go_ret
  exact ⟨rfl, HB.out⟩
end Go.Proofs.YtlpdafldabfiaaaGreat
end
section
namespace Go.Proofs.YtlpdafldabfiaaaGreat
open Go.ChangeShapes Go.WideShapes Go.ChangeAt Go.RowKit Go.Shelf
set_option linter.unusedVariables false
variable {w0 w w' : World} {F0 : Nat → Prop} {L : List Asn} {T : TypeId} {m : Nat} {ws : List Int} {l : List Acc}
theorem rNew_any (n : Nat) (hn : n ≤ 10000) (h : Own w0 F0 L w) :
    Calls Tryz.prog 88 #[.int .i64 n] w (RetMem w0 F0 L 36 (List.replicate n 0) []) := by
  have hmk := fun w => make_ints n (by omega) w
  have h2 := Lib.hid ((h.new (.cells (zeroInts n) 3)).new (.cells #[.slice (some ⟨w.heap.size, 0, none⟩) n n, .slice none 0 0] 36))
  go_enter Tryz.func88, Tryz.ntmps88
  go_wp2_with fail
  go_ret
  refine ⟨_, rfl, ?_⟩
  rw [← World.size_alloc w (.cells (zeroInts n) 3)]
  have h3 := (h2.out.swap.blkRow (n := n) (cap := n) (size := 1) (xs := intC (List.replicate n 0)) (Nat.le_refl _) (by unfold maxLen; omega) (by simp [zeroInts_size]) (by rw [zeroInts_list, Nat.mul_one]; exact List.take_of_length_le (by simp [intC])) (by simp [intC])).swap
  exact (h3.under fun _ _ h => h.under fun _ _ h => h.rowNil).toMem' (ws := List.replicate n 0) (l := []) (by simp) rfl rfl rfl
theorem set_take (ws : List Int) (i k : Nat) (d : Int) (hk : k < ws.length) : intC ((ws.set i d).take k) ++ [.int .i64 (if k = i then d else ws.getD k 0)] = intC ((ws.set i d).take (k + 1)) := by
  unfold intC
  rw [List.take_add_one, List.map_append]
  congr 1
  rw [List.getElem?_set]
  by_cases h : i = k
  · subst h; simp [hk]
  · rw [if_neg h, if_neg (Ne.symm h)]; simp [hk]
theorem rPoke_any (i : Nat) (d : Int) (hn : ws.length ≤ 1000000) (h : Own w0 F0 (memA T m ws l :: L) w) :
    Calls Tryz.prog 59 #[.pointer (some ⟨m, 0, none⟩), .int .i64 i, .int .i64 d] w fun e w' =>
      e = .returned (.tuple #[]) ∧ Own w0 F0 (memA T m (ws.set i d) l :: L) w' := by
  obtain ⟨vw, vl, h1⟩ := h.mem
  obtain ⟨p, cap, rfl⟩ := row_slice h1.swap
  obtain ⟨i0, hi0, hz0, hz1, hz2⟩ := info_parts Tryz.info_int
  have H1 := Lib.hid h1
  clear h h1
  go_enter Tryz.func59, Tryz.ntmps59
  go_wp2_with fail
  go_loopw [6, 7] (fun v j wr => ∃ k : Nat, k ≤ ws.length ∧ j = .int .i64 k ∧ Own w0 F0 (row v 3 1 k (intC ((ws.set i d).take k)) :: blk m (.cells #[.slice p ws.length cap, vl] T (0, 0)) :: row (.slice p ws.length cap) 3 1 ws.length (intC ws) :: row vl 104 5 l.length (logC l) :: L) wr)
    (fun _ j _ => ws.length - (intOf j).toNat)
  case atStart => exact ⟨0, Nat.zero_le _, rfl, H1.out.rowNil⟩
  case round =>
    obtain ⟨k, hk, rfl, hO⟩ := hrel
    have hm : wr.cell? ⟨m, 0, none⟩ = some (.slice p ws.length cap) := hO.swap.cell (i := 0) rfl
    by_cases hlt : k < ws.length
    · obtain ⟨b, off, cap', hv, hc⟩ := (hO.drop.drop.intsAt).at (by omega)
      injection hv with hp _ _
      subst hp
      have hck := hc k hlt
      have hst := set_take ws i k d hlt
      have H2 := Lib.hid (show k + 1 ≤ maxLen by unfold maxLen; omega)
      have H3 := Lib.hid (show (k + 1) * 8 ≤ 140737488355328 by omega)
      have HO := Lib.hid hO
      clear hc hO
      by_cases hki : k = i
      · subst hki
        rw [if_pos rfl] at hst
        have Hst := Lib.hid hst
        clear hst hck
        go_wp2_with (at_builtin; refine wpList_append_row rfl (.tmp 20) (.tmp 22) 22 rfl 3 i0 _ Tryz.underlying22 hi0 hz0 hz1 hz2 rfl (by decide) rfl (HO.out.alloc _) ⟨wr.heap.size, 0, none⟩ 1 1 [.int .i64 d] rfl rfl (news_at _ [.int .i64 d] _ _ rfl) (by simp [Value.oneCell']) H2.out H3.out ?_; intro v' w1 hO1 hg hn)
        rw [Hst.out] at hO1
        go_roundw
        case rel => exact ⟨k + 1, by omega, by go_num, hO1⟩
        case measure => simp [intOf]; omega
      · rw [if_neg hki] at hst
        have Hst := Lib.hid hst
        clear hst
        have hne : ((k : Int) == (i : Int)) = false := by rw [beq_eq_false_iff_ne]; omega
        clear hki
        generalize ws.getD k 0 = z at hck Hst
        go_wp2_with (at_builtin; refine wpList_append_row rfl (.tmp 24) (.tmp 32) 22 rfl 3 i0 _ Tryz.underlying22 hi0 hz0 hz1 hz2 rfl (by decide) rfl (HO.out.alloc _) ⟨wr.heap.size, 0, none⟩ 1 1 [.int .i64 z] rfl rfl (news_at _ [.int .i64 z] _ _ rfl) (by simp [Value.oneCell']) H2.out H3.out ?_; intro v' w1 hO1 hg hn)
        rw [Hst.out] at hO1
        go_roundw
        case rel => exact ⟨k + 1, by omega, by go_num, hO1⟩
        case measure => simp [intOf]; omega
    · have hkl : k = ws.length := by omega
      subst hkl
      obtain ⟨pv, cv, rfl⟩ := row_slice hO
      have hf : wr.frozen? ⟨m, 0, none⟩ = false := hO.swap.unfrozen
      go_wp2
      go_end0
      refine ⟨rfl, ?_⟩
      have h5 := hO.swap.set 0 (.slice pv ws.length cv)
      exact (h5.under fun _ _ h => h.under fun _ _ h => h.drop).toMem' (by simp) (by rw [List.take_of_length_le (by simp)]) rfl rfl
end Go.Proofs.YtlpdafldabfiaaaGreat
end
section
namespace Go.Proofs.YtlpdafldabfiaaaGreat
open Go.ChangeShapes Go.WideShapes Go.ChangeAt Go.RowKit Go.Shelf
set_option linter.unusedVariables false
variable {w0 w w' W : World} {F0 : Nat → Prop} {L : List Asn} {vp vl : Value} {pp pl : Option Addr} {np cp nl cl : Nat} {T : TypeId} {m : Nat} {ws : List Int} {l : List Acc}
def limN (c : Cf) (k : Nat) : Nat := k * (6 + 2 * c.st.toNat)
theorem limN_eq {c : Cf} (hs : Sm c) (k : Nat) : lim c k = (limN c k : Int) := by
  obtain ⟨s0, s1⟩ := hs
  unfold lim limN each
  rw [Int.natCast_mul]
  congr 1
  omega
def layW (c : Cf) (ws : List Int) (k : Nat) (x : Int) : List Int := ((ws.set (limN c k) x).set (limN c k + 1) x).set (limN c k + (5 + c.st.toNat)) 1
theorem layW_len (c : Cf) (ws : List Int) (k : Nat) (x : Int) : (layW c ws k x).length = ws.length := by simp [layW]
def sizeN (c : Cf) : Nat := limN c c.ps.length + 2 * c.ti.toNat
def freshW (c : Cf) : Nat → List Int
  | 0 => List.replicate (sizeN c) 0
  | k + 1 => layW c (freshW c k) k (c.ls.getD k 0)
theorem freshW_len (c : Cf) (k : Nat) : (freshW c k).length = sizeN c := by
  induction k with
  | zero => simp [freshW]
  | succ k ih => rw [freshW, layW_len, ih]
theorem sizeN_eq {c : Cf} (hr : c.Rt) : lim c c.ps.length + 2 * c.ti = (sizeN c : Int) ∧ sizeN c ≤ 400 := by
  have h1 := limN_eq hr.sm c.ps.length
  have h2 := hr.ti
  have h3 := lim_bd hr.sm (show (0 : Int) ≤ c.ps.length by omega) (by have := hr.n1; omega)
  unfold Bd at h2
  unfold sizeN
  omega
theorem limN_mono {c : Cf} {a b : Nat} (h : a ≤ b) : limN c a ≤ limN c b := Nat.mul_le_mul_right _ h
end Go.Proofs.YtlpdafldabfiaaaGreat
end
