/- Texts of elder layers, one behind the other: PlanOf, MemRefNew, PlanFresh, PlanRef. -/
import Derived.Test.YtjfjjmlocgmicaaGreatD7
section
namespace Go.Proofs.YtjfjjmlocgmicaaGreat
open Go.ChangeShapes Go.WideShapes Go.ChangeAt Go.RowKit Go.Shelf
set_option linter.unusedVariables false
variable {w0 w w' W : World} {F0 : Nat → Prop} {L : List Asn} {vp vl : Value} {pp pl : Option Addr} {np cp nl cl : Nat}
theorem of_q (c : Cf) (v : Int) (w : World) : Calls Tryz.prog 68 #[cfV c (.slice pp np cp) (.slice pl nl cl), .int .i64 v] w fun e w' => e = .returned (.agg (tnA c (.slice pp np cp) (.slice pl nl cl) v)) ∧ Below w.heap.size w w' := by
  go_enter Tryz.func68, Tryz.ntmps68
  go_wp2_with fail
  refine bodyPost_ret (v := .agg (tnA c (.slice pp np cp) (.slice pl nl cl) v)) (by simp [results, Tryz.results68, go_sem]) rfl ⟨rfl, ((Stp.refl w).alloc _).alloc _⟩
theorem word_q (c : Cf) (hs : Sm c) (v : Int) (v0 : 0 ≤ v) (v1 : v ≤ 12) (b : Int) (b0 : 0 ≤ b) (b1 : b ≤ 100) (w : World) : Calls Tryz.prog 69 #[.agg (tnA c (.slice pp np cp) (.slice pl nl cl) v), .int .i64 b] w fun e w' => e = .returned (.int .i64 (lim c v + b)) ∧ Below w.heap.size w w' := by
  have HC := fun w => Lib.hid (place_q (vp := .slice pp np cp) (vl := .slice pl nl cl) c hs v v0 v1 w)
  obtain ⟨l0, l1⟩ := lim_bd hs v0 (by omega : v ≤ 13)
  clear hs
  generalize lim c v = P at *
  go_enter Tryz.func69, Tryz.ntmps69
  go_wp2_with fail
  refine (HC _).out.mono ?_
  rintro e w1 ⟨rfl, hB⟩
  have HB := Lib.hid (((Stp.refl w).alloc _).trans hB)
  clear hB HC
  go_wp2_with fail
  go_ret
  exact ⟨rfl, HB.out⟩
theorem Limit_q (c : Cf) (hs : Sm c) (v : Int) (v0 : 0 ≤ v) (v1 : v ≤ 12) (w : World) : Calls Tryz.prog 174 #[cfV c (.slice pp np cp) (.slice pl nl cl), .int .i64 v] w fun e w' => e = .returned (.int .i64 (lim c v)) ∧ Below w.heap.size w w' := by
  have H1 := fun w => Lib.hid (of_q (pp := pp) (np := np) (cp := cp) (pl := pl) (nl := nl) (cl := cl) c v w)
  have H2 := fun w => Lib.hid (word_q (pp := pp) (np := np) (cp := cp) (pl := pl) (nl := nl) (cl := cl) c hs v v0 v1 (0) (by omega) (by omega) w)
  clear hs
  go_enter Tryz.func174, Tryz.ntmps174
  go_wp2_with fail
  refine (H1 _).out.mono ?_
  rintro e w1 ⟨rfl, hB⟩
  have HB := Lib.hid (((Stp.refl w).alloc _).trans hB)
  clear hB H1
  go_wp2_with fail
  refine (H2 _).out.mono ?_
  rintro e w2 ⟨rfl, hB⟩
  have HB2 := Lib.hid (HB.out.trans hB)
  clear hB HB H2
  go_wp2_with fail
  go_ret
  exact ⟨by simp, HB2.out⟩
theorem Avail_q (c : Cf) (hs : Sm c) (v : Int) (v0 : 0 ≤ v) (v1 : v ≤ 12) (w : World) : Calls Tryz.prog 65 #[cfV c (.slice pp np cp) (.slice pl nl cl), .int .i64 v] w fun e w' => e = .returned (.int .i64 (lim c v + 1)) ∧ Below w.heap.size w w' := by
  have H1 := fun w => Lib.hid (of_q (pp := pp) (np := np) (cp := cp) (pl := pl) (nl := nl) (cl := cl) c v w)
  have H2 := fun w => Lib.hid (word_q (pp := pp) (np := np) (cp := cp) (pl := pl) (nl := nl) (cl := cl) c hs v v0 v1 (1) (by omega) (by omega) w)
  clear hs
  go_enter Tryz.func65, Tryz.ntmps65
  go_wp2_with fail
  refine (H1 _).out.mono ?_
  rintro e w1 ⟨rfl, hB⟩
  have HB := Lib.hid (((Stp.refl w).alloc _).trans hB)
  clear hB H1
  go_wp2_with fail
  refine (H2 _).out.mono ?_
  rintro e w2 ⟨rfl, hB⟩
  have HB2 := Lib.hid (HB.out.trans hB)
  clear hB HB H2
  go_wp2_with fail
  go_ret
  exact ⟨rfl, HB2.out⟩
theorem Lease_q (c : Cf) (hs : Sm c) (v : Int) (v0 : 0 ≤ v) (v1 : v ≤ 12) (s : Int) (s0 : 0 ≤ s) (s1 : s ≤ 8) (w : World) : Calls Tryz.prog 66 #[cfV c (.slice pp np cp) (.slice pl nl cl), .int .i64 v, .int .i64 s] w fun e w' => e = .returned (.int .i64 (lim c v + 2 + s)) ∧ Below w.heap.size w w' := by
  have H1 := fun w => Lib.hid (of_q (pp := pp) (np := np) (cp := cp) (pl := pl) (nl := nl) (cl := cl) c v w)
  have H2 := fun w => Lib.hid (word_q (pp := pp) (np := np) (cp := cp) (pl := pl) (nl := nl) (cl := cl) c hs v v0 v1 (2 + s) (by omega) (by omega) w)
  clear hs
  go_enter Tryz.func66, Tryz.ntmps66
  go_wp2_with fail
  refine (H1 _).out.mono ?_
  rintro e w1 ⟨rfl, hB⟩
  have HB := Lib.hid (((Stp.refl w).alloc _).trans hB)
  clear hB H1
  go_wp2_with fail
  refine (H2 _).out.mono ?_
  rintro e w2 ⟨rfl, hB⟩
  have HB2 := Lib.hid (HB.out.trans hB)
  clear hB HB H2
  go_wp2_with fail
  go_ret
  exact ⟨by rw [Int.add_assoc]; rfl, HB2.out⟩
theorem Counter_q (c : Cf) (hs : Sm c) (v : Int) (v0 : 0 ≤ v) (v1 : v ≤ 12) (w : World) : Calls Tryz.prog 27 #[cfV c (.slice pp np cp) (.slice pl nl cl), .int .i64 v] w fun e w' => e = .returned (.int .i64 (lim c v + 2 + c.st)) ∧ Below w.heap.size w w' := by
  have H1 := fun w => Lib.hid (of_q (pp := pp) (np := np) (cp := cp) (pl := pl) (nl := nl) (cl := cl) c v w)
  obtain ⟨st0, st1⟩ := hs
  have H2 := fun w => Lib.hid (word_q (pp := pp) (np := np) (cp := cp) (pl := pl) (nl := nl) (cl := cl) c ⟨st0, st1⟩ v v0 v1 (2 + c.st) (by omega) (by omega) w)
  have H3 := fun w => Lib.hid (counterBehind_q (vp := .slice pp np cp) (vl := .slice pl nl cl) c ⟨st0, st1⟩ w)
  go_enter Tryz.func27, Tryz.ntmps27
  go_wp2_with fail
  refine (H1 _).out.mono ?_
  rintro e w1 ⟨rfl, hB⟩
  have HB := Lib.hid ((((Stp.refl w).alloc _).trans hB).alloc (.cells (tnA c (.slice pp np cp) (.slice pl nl cl) v) 113))
  clear hB H1
  go_wp2_with fail
  have k0 := cell_regrown (cells9 113 w1 c (.slice pp np cp) (.slice pl nl cl) v 0 _ rfl)
  have k1 := cell_regrown (cells9 113 w1 c (.slice pp np cp) (.slice pl nl cl) v 1 _ rfl)
  have k2 := cell_regrown (cells9 113 w1 c (.slice pp np cp) (.slice pl nl cl) v 2 _ rfl)
  have k3 := cell_regrown (cells9 113 w1 c (.slice pp np cp) (.slice pl nl cl) v 3 _ rfl)
  have k4 := cell_regrown (cells9 113 w1 c (.slice pp np cp) (.slice pl nl cl) v 4 _ rfl)
  have k5 := cell_regrown (cells9 113 w1 c (.slice pp np cp) (.slice pl nl cl) v 5 _ rfl)
  have k6 := cell_regrown (cells9 113 w1 c (.slice pp np cp) (.slice pl nl cl) v 6 _ rfl)
  have k7 := cell_regrown (cells9 113 w1 c (.slice pp np cp) (.slice pl nl cl) v 7 _ rfl)
  have k8 := cell_regrown (cells9 113 w1 c (.slice pp np cp) (.slice pl nl cl) v 8 _ rfl)
  generalize w1.heap.size = B at *
  generalize w1.alloc (.cells (tnA c (.slice pp np cp) (.slice pl nl cl) v) 113) = w2 at *
  have C2 := fun d os => Calls.regrown_of (H2 (Go.Sort.grow (redrawn w2 d) os)).out
  have C3 := fun d os => Calls.regrown_of (H3 (Go.Sort.grow (redrawn w2 d) os)).out
  clear H2 H3
  refine wp_region_quiet_below (by kernel_rfl) (by kernel_rfl) ?_
  repeat (go_big_quiet_step ((first | (go_at_call 69; exact C2 _ _) | (go_at_call 70; exact C3 _ _))))
  refine wpQuiet_nil ?_
  intro _ hw'
  obtain ⟨⟨dq, osq⟩, hw''⟩ := hw'
  subst hw''
  clear k0 k1 k2 k3 k4 k5 k6 k7 k8
  go_wp2_with fail
  go_ret
  exact ⟨by rw [Int.add_assoc]; rfl, HB.out.trans (below_regrown _ dq osq)⟩
theorem Ticket_q (c : Cf) (hs : Sm c) (hn : np ≤ 12) (t : Int) (t0 : 0 ≤ t) (t1 : t ≤ 16) (w : World) : Calls Tryz.prog 47 #[cfV c (.slice pp np cp) (.slice pl nl cl), .int .i64 t] w fun e w' => e = .returned (.int .i64 (lim c np + 2 * t)) ∧ Below w.heap.size w w' := by
  have H1 := fun w => Lib.hid (place_q (vp := .slice pp np cp) (vl := .slice pl nl cl) c hs np (by omega) (by omega) w)
  obtain ⟨l0, l1⟩ := lim_bd hs (show (0 : Int) ≤ np by omega) (by omega)
  clear hs
  generalize lim c np = Q at *
  go_enter Tryz.func47, Tryz.ntmps47
  go_wp2_with fail
  refine (H1 _).out.mono ?_
  rintro e w1 ⟨rfl, hB⟩
  have HB := Lib.hid (((Stp.refl w).alloc _).trans hB)
  clear hB H1
  go_wp2_with fail
  go_ret
  exact ⟨rfl, HB.out⟩
theorem rLimit_q (c : Cf) (hs : Sm c) (v : Int) (v0 : 0 ≤ v) (v1 : v ≤ 12) (w : World) : Calls Tryz.prog 72 #[cfV c (.slice pp np cp) (.slice pl nl cl), .int .i64 v] w fun e w' => e = .returned (.int .i64 (lim c v)) ∧ Below w.heap.size w w' := by
  have hl : lim c v = v * (6 + 2 * c.st) := rfl
  obtain ⟨l0, l1⟩ := lim_bd hs v0 (by omega : v ≤ 13)
  obtain ⟨s0, s1⟩ := hs
  rw [hl] at l0 l1 ⊢
  clear hl
  go_enter Tryz.func72, Tryz.ntmps72
  go_wp2
  go_ret
  exact ⟨rfl, (Stp.refl w).alloc _⟩
theorem rAvail_q (c : Cf) (hs : Sm c) (v : Int) (v0 : 0 ≤ v) (v1 : v ≤ 12) (w : World) : Calls Tryz.prog 56 #[cfV c (.slice pp np cp) (.slice pl nl cl), .int .i64 v] w fun e w' => e = .returned (.int .i64 (lim c v + 1)) ∧ Below w.heap.size w w' := by
  have H1 := fun w => Lib.hid (rLimit_q (pp := pp) (np := np) (cp := cp) (pl := pl) (nl := nl) (cl := cl) c hs v v0 v1 w)
  obtain ⟨l0, l1⟩ := lim_bd hs v0 (by omega : v ≤ 13)
  obtain ⟨st0, st1⟩ := hs
  generalize lim c v = Q at *
  go_enter Tryz.func56, Tryz.ntmps56
  go_wp2_with fail
  refine (H1 _).out.mono ?_
  rintro e w1 ⟨rfl, hB⟩
  have HB := Lib.hid (((Stp.refl w).alloc _).trans hB)
  have c1 : w1.cell? ⟨w.heap.size, 1, none⟩ = some (.int .i64 c.st) := Stp.cell hB (cellsT _ w c _ _ 1 _ rfl)
  clear hB H1
  go_wp2_with fail
  go_ret
  exact ⟨rfl, HB.out⟩
theorem rLease_q (c : Cf) (hs : Sm c) (v : Int) (v0 : 0 ≤ v) (v1 : v ≤ 12) (s : Int) (s0 : 0 ≤ s) (s1 : s ≤ 8) (w : World) : Calls Tryz.prog 57 #[cfV c (.slice pp np cp) (.slice pl nl cl), .int .i64 v, .int .i64 s] w fun e w' => e = .returned (.int .i64 (lim c v + 2 + s)) ∧ Below w.heap.size w w' := by
  have H1 := fun w => Lib.hid (rLimit_q (pp := pp) (np := np) (cp := cp) (pl := pl) (nl := nl) (cl := cl) c hs v v0 v1 w)
  obtain ⟨l0, l1⟩ := lim_bd hs v0 (by omega : v ≤ 13)
  obtain ⟨st0, st1⟩ := hs
  generalize lim c v = Q at *
  go_enter Tryz.func57, Tryz.ntmps57
  go_wp2_with fail
  refine (H1 _).out.mono ?_
  rintro e w1 ⟨rfl, hB⟩
  have HB := Lib.hid (((Stp.refl w).alloc _).trans hB)
  have c1 : w1.cell? ⟨w.heap.size, 1, none⟩ = some (.int .i64 c.st) := Stp.cell hB (cellsT _ w c _ _ 1 _ rfl)
  clear hB H1
  go_wp2_with fail
  go_ret
  exact ⟨rfl, HB.out⟩
theorem rCounter_q (c : Cf) (hs : Sm c) (v : Int) (v0 : 0 ≤ v) (v1 : v ≤ 12) (w : World) : Calls Tryz.prog 59 #[cfV c (.slice pp np cp) (.slice pl nl cl), .int .i64 v] w fun e w' => e = .returned (.int .i64 (lim c v + 2 + c.st)) ∧ Below w.heap.size w w' := by
  have H1 := fun d os => Calls.regrown_of (rLimit_q (pp := pp) (np := np) (cp := cp) (pl := pl) (nl := nl) (cl := cl) c hs v v0 v1 (Go.Sort.grow (redrawn (w.alloc (cfO c (.slice pp np cp) (.slice pl nl cl))) d) os))
  obtain ⟨l0, l1⟩ := lim_bd hs v0 (by omega : v ≤ 13)
  have k0 := cell_regrown (cellsT 24 w c (.slice pp np cp) (.slice pl nl cl) 0 _ rfl)
  have k1 := cell_regrown (cellsT 24 w c (.slice pp np cp) (.slice pl nl cl) 1 _ rfl)
  have k2 := cell_regrown (cellsT 24 w c (.slice pp np cp) (.slice pl nl cl) 2 _ rfl)
  have k3 := cell_regrown (cellsT 24 w c (.slice pp np cp) (.slice pl nl cl) 3 _ rfl)
  have k4 := cell_regrown (cellsT 24 w c (.slice pp np cp) (.slice pl nl cl) 4 _ rfl)
  have k5 := cell_regrown (cellsT 24 w c (.slice pp np cp) (.slice pl nl cl) 5 _ rfl)
  have k6 := cell_regrown (cellsT 24 w c (.slice pp np cp) (.slice pl nl cl) 6 _ rfl)
  have k7 := cell_regrown (cellsT 24 w c (.slice pp np cp) (.slice pl nl cl) 7 _ rfl)
  obtain ⟨st0, st1⟩ := hs
  generalize lim c v = Q at *
  go_enter Tryz.func59, Tryz.ntmps59
  go_wp2_with fail
  refine wp_region_quiet_below (by kernel_rfl) (by kernel_rfl) ?_
  repeat (go_big_quiet_step ((go_at_call 72; exact H1 _ _)))
  refine wpQuiet_nil ?_
  intro _ hw'
  obtain ⟨⟨dq, osq⟩, hw''⟩ := hw'
  subst hw''
  clear k0 k1 k2 k3 k4 k5 k6 k7
  go_wp2_with fail
  go_ret
  exact ⟨rfl, ((Stp.refl w).alloc _).trans (below_regrown _ dq osq)⟩
theorem rTicket_q (c : Cf) (hs : Sm c) (hn : np ≤ 12) (t : Int) (t0 : 0 ≤ t) (t1 : t ≤ 16) (w : World) : Calls Tryz.prog 30 #[cfV c (.slice pp np cp) (.slice pl nl cl), .int .i64 t] w fun e w' => e = .returned (.int .i64 (lim c np + 2 * t)) ∧ Below w.heap.size w w' := by
  have H1 := fun w => Lib.hid (rLimit_q (pp := pp) (np := np) (cp := cp) (pl := pl) (nl := nl) (cl := cl) c hs np (by omega) (by omega) w)
  obtain ⟨l0, l1⟩ := lim_bd hs (show (0 : Int) ≤ np by omega) (by omega)
  clear hs
  generalize lim c np = Q at *
  go_enter Tryz.func30, Tryz.ntmps30
  go_wp2_with fail
  refine (H1 _).out.mono ?_
  rintro e w1 ⟨rfl, hB⟩
  have HB := Lib.hid (((Stp.refl w).alloc _).trans hB)
  clear hB H1
  go_wp2_with fail
  go_ret
  exact ⟨rfl, HB.out⟩
theorem rSize_q (c : Cf) (hs : Sm c) (hn : np ≤ 12) (t0 : 0 ≤ c.ti) (t1 : c.ti ≤ 16) (w : World) : Calls Tryz.prog 113 #[cfV c (.slice pp np cp) (.slice pl nl cl)] w fun e w' => e = .returned (.int .i64 (lim c np + 2 * c.ti)) ∧ Below w.heap.size w w' := by
  have H1 := fun w => Lib.hid (rTicket_q (pp := pp) (np := np) (cp := cp) (pl := pl) (nl := nl) (cl := cl) c hs hn c.ti t0 t1 w)
  clear hs
  go_enter Tryz.func113, Tryz.ntmps113
  go_wp2_with fail
  refine (H1 _).out.mono ?_
  rintro e w1 ⟨rfl, hB⟩
  have HB := Lib.hid (((Stp.refl w).alloc _).trans hB)
  clear hB H1
  go_wp2_with fail
  go_ret
  exact ⟨rfl, HB.out⟩
end Go.Proofs.YtjfjjmlocgmicaaGreat
end
section
namespace Go.Proofs.YtjfjjmlocgmicaaGreat
open Go.ChangeShapes Go.WideShapes Go.ChangeAt Go.RowKit Go.Shelf
set_option linter.unusedVariables false
variable {w0 w w' : World} {F0 : Nat → Prop} {L : List Asn} {T : TypeId} {m : Nat} {ws : List Int} {l : List Acc}
theorem rNew_any (n : Nat) (hn : n ≤ 10000) (h : Own w0 F0 L w) :
    Calls Tryz.prog 112 #[.int .i64 n] w (RetMem w0 F0 L 43 (List.replicate n 0) []) := by
  have hmk := fun w => make_ints n (by omega) w
  have h2 := Lib.hid ((h.new (.cells (zeroInts n) 3)).new (.cells #[.slice (some ⟨w.heap.size, 0, none⟩) n n, .slice none 0 0] 43))
  go_enter Tryz.func112, Tryz.ntmps112
  go_wp2_with fail
  go_ret
  refine ⟨_, rfl, ?_⟩
  rw [← World.size_alloc w (.cells (zeroInts n) 3)]
  have h3 := (h2.out.swap.blkRow (n := n) (cap := n) (size := 1) (xs := intC (List.replicate n 0)) (Nat.le_refl _) (by unfold maxLen; omega) (by simp [zeroInts_size]) (by rw [zeroInts_list, Nat.mul_one]; exact List.take_of_length_le (by simp [intC])) (by simp [intC])).swap
  exact (h3.under fun _ _ h => h.under fun _ _ h => h.rowNil).toMem' (ws := List.replicate n 0) (l := []) (by simp) rfl rfl rfl
theorem set_take (ws : List Int) (i k : Nat) (d : Int) (hk : k < ws.length) : intC ((ws.set i d).take k) ++ [.int .i64 (if k = i then d else ws.getD k 0)] = intC ((ws.set i d).take (k + 1)) := by
  unfold intC
  rw [List.take_add_one, List.map_append]
  congr 1
  rw [List.getElem?_set]
  by_cases h : i = k
  · subst h; simp [hk]
  · rw [if_neg h, if_neg (Ne.symm h)]; simp [hk]
theorem rPoke_any (i : Nat) (d : Int) (hn : ws.length ≤ 1000000) (h : Own w0 F0 (memA T m ws l :: L) w) :
    Calls Tryz.prog 60 #[.pointer (some ⟨m, 0, none⟩), .int .i64 i, .int .i64 d] w fun e w' =>
      e = .returned (.tuple #[]) ∧ Own w0 F0 (memA T m (ws.set i d) l :: L) w' := by
  obtain ⟨vw, vl, h1⟩ := h.mem
  obtain ⟨p, cap, rfl⟩ := row_slice h1.swap
  obtain ⟨i0, hi0, hz0, hz1, hz2⟩ := info_parts Tryz.info_int
  have H1 := Lib.hid h1
  clear h h1
  go_enter Tryz.func60, Tryz.ntmps60
  go_wp2_with fail
  go_loopw [6, 7] (fun v j wr => ∃ k : Nat, k ≤ ws.length ∧ j = .int .i64 k ∧ Own w0 F0 (row v 3 1 k (intC ((ws.set i d).take k)) :: blk m (.cells #[.slice p ws.length cap, vl] T (0, 0)) :: row (.slice p ws.length cap) 3 1 ws.length (intC ws) :: row vl 104 5 l.length (logC l) :: L) wr)
    (fun _ j _ => ws.length - (intOf j).toNat)
  case atStart => exact ⟨0, Nat.zero_le _, rfl, H1.out.rowNil⟩
  case round =>
    obtain ⟨k, hk, rfl, hO⟩ := hrel
    have hm : wr.cell? ⟨m, 0, none⟩ = some (.slice p ws.length cap) := hO.swap.cell (i := 0) rfl
    by_cases hlt : k < ws.length
    · obtain ⟨b, off, cap', hv, hc⟩ := (hO.drop.drop.intsAt).at (by omega)
      injection hv with hp _ _
      subst hp
      have hck := hc k hlt
      have hst := set_take ws i k d hlt
      have H2 := Lib.hid (show k + 1 ≤ maxLen by unfold maxLen; omega)
      have H3 := Lib.hid (show (k + 1) * 8 ≤ 140737488355328 by omega)
      have HO := Lib.hid hO
      clear hc hO
      by_cases hki : k = i
      · subst hki
        rw [if_pos rfl] at hst
        have Hst := Lib.hid hst
        clear hst hck
        go_wp2_with (at_builtin; refine wpList_append_row rfl (.tmp 20) (.tmp 22) 22 rfl 3 i0 _ Tryz.underlying22 hi0 hz0 hz1 hz2 rfl (by decide) rfl (HO.out.alloc _) ⟨wr.heap.size, 0, none⟩ 1 1 [.int .i64 d] rfl rfl (news_at _ [.int .i64 d] _ _ rfl) (by simp [Value.oneCell']) H2.out H3.out ?_; intro v' w1 hO1 hg hn)
        rw [Hst.out] at hO1
        go_roundw
        case rel => exact ⟨k + 1, by omega, by go_num, hO1⟩
        case measure => simp [intOf]; omega
      · rw [if_neg hki] at hst
        have Hst := Lib.hid hst
        clear hst
        have hne : ((k : Int) == (i : Int)) = false := by rw [beq_eq_false_iff_ne]; omega
        clear hki
        generalize ws.getD k 0 = z at hck Hst
        go_wp2_with (at_builtin; refine wpList_append_row rfl (.tmp 24) (.tmp 32) 22 rfl 3 i0 _ Tryz.underlying22 hi0 hz0 hz1 hz2 rfl (by decide) rfl (HO.out.alloc _) ⟨wr.heap.size, 0, none⟩ 1 1 [.int .i64 z] rfl rfl (news_at _ [.int .i64 z] _ _ rfl) (by simp [Value.oneCell']) H2.out H3.out ?_; intro v' w1 hO1 hg hn)
        rw [Hst.out] at hO1
        go_roundw
        case rel => exact ⟨k + 1, by omega, by go_num, hO1⟩
        case measure => simp [intOf]; omega
    · have hkl : k = ws.length := by omega
      subst hkl
      obtain ⟨pv, cv, rfl⟩ := row_slice hO
      have hf : wr.frozen? ⟨m, 0, none⟩ = false := hO.swap.unfrozen
      go_wp2
      go_end0
      refine ⟨rfl, ?_⟩
      have h5 := hO.swap.set 0 (.slice pv ws.length cv)
      exact (h5.under fun _ _ h => h.under fun _ _ h => h.drop).toMem' (by simp) (by rw [List.take_of_length_le (by simp)]) rfl rfl
end Go.Proofs.YtjfjjmlocgmicaaGreat
end
section
namespace Go.Proofs.YtjfjjmlocgmicaaGreat
open Go.ChangeShapes Go.WideShapes Go.ChangeAt Go.RowKit Go.Shelf
set_option linter.unusedVariables false
variable {w0 w w' W : World} {F0 : Nat → Prop} {L : List Asn} {vp vl : Value} {pp pl : Option Addr} {np cp nl cl : Nat} {T : TypeId} {m : Nat} {ws : List Int} {l : List Acc}
def limN (c : Cf) (k : Nat) : Nat := k * (6 + 2 * c.st.toNat)
theorem limN_eq {c : Cf} (hs : Sm c) (k : Nat) : lim c k = (limN c k : Int) := by
  obtain ⟨s0, s1⟩ := hs
  unfold lim limN each
  rw [Int.natCast_mul]
  congr 1
  omega
def layW (c : Cf) (ws : List Int) (k : Nat) (x : Int) : List Int := ((ws.set (limN c k) x).set (limN c k + 1) x).set (limN c k + (5 + c.st.toNat)) 1
theorem layW_len (c : Cf) (ws : List Int) (k : Nat) (x : Int) : (layW c ws k x).length = ws.length := by simp [layW]
def sizeN (c : Cf) : Nat := limN c c.ps.length + 2 * c.ti.toNat
def freshW (c : Cf) : Nat → List Int
  | 0 => List.replicate (sizeN c) 0
  | k + 1 => layW c (freshW c k) k (c.ls.getD k 0)
theorem freshW_len (c : Cf) (k : Nat) : (freshW c k).length = sizeN c := by
  induction k with
  | zero => simp [freshW]
  | succ k ih => rw [freshW, layW_len, ih]
def FrS (T : TypeId) (bc bm m : Nat) (c : Cf) (vp vl : Value) (ws : List Int) (L : List Asn) : List Asn := memA T m ws [] :: blk bm (.cells #[.pointer (some ⟨m, 0, none⟩)] 38 (0, 0)) :: blk bc (cfO c vp vl) :: L
theorem FrS.cells {T : TypeId} {bc bm m : Nat} {c : Cf} {vp vl : Value} {ws : List Int} (h : Own w0 F0 (FrS T bc bm m c vp vl ws L) w) :
    w.cell? ⟨bm, 0, none⟩ = some (.pointer (some ⟨m, 0, none⟩)) ∧ w.cell? ⟨bc, 0, none⟩ = some (.int .i64 c.th) ∧ w.cell? ⟨bc, 1, none⟩ = some (.int .i64 c.st) ∧ w.cell? ⟨bc, 2, none⟩ = some (.int .i64 c.ga) ∧ w.cell? ⟨bc, 3, none⟩ = some (.int .i64 c.le) ∧
    w.cell? ⟨bc, 4, none⟩ = some (.int .i64 c.re) ∧ w.cell? ⟨bc, 5, none⟩ = some (.int .i64 c.ti) ∧ w.cell? ⟨bc, 6, none⟩ = some vp ∧ w.cell? ⟨bc, 7, none⟩ = some vl :=
  ⟨h.swap.cell (i := 0) rfl, conf_cells h.p2⟩
theorem sizeN_eq {c : Cf} (hr : c.Rt) : lim c c.ps.length + 2 * c.ti = (sizeN c : Int) ∧ sizeN c ≤ 400 := by
  have h1 := limN_eq hr.sm c.ps.length
  have h2 := hr.ti
  have h3 := lim_bd hr.sm (show (0 : Int) ≤ c.ps.length by omega) (by have := hr.n1; omega)
  unfold Bd at h2
  unfold sizeN
  omega
theorem limN_mono {c : Cf} {a b : Nat} (h : a ≤ b) : limN c a ≤ limN c b := Nat.mul_le_mul_right _ h
end Go.Proofs.YtjfjjmlocgmicaaGreat
end
section
namespace Go.Proofs.YtjfjjmlocgmicaaGreat
open Go.ChangeShapes Go.WideShapes Go.ChangeAt Go.RowKit Go.Shelf
set_option linter.unusedVariables false
variable {w0 w w' W : World} {F0 : Nat → Prop} {L : List Asn} {vp vl : Value} {pp pl : Option Addr} {np cp nl cl : Nat} {T : TypeId} {m : Nat} {ws : List Int} {l : List Acc}
theorem rPoke_at {i : Nat} {j : Int} (hj : j = i) {d : Int} (hn : ws.length ≤ 1000000) (h : Own w0 F0 (memA T m ws l :: L) w) :
    Calls Tryz.prog 60 #[.pointer (some ⟨m, 0, none⟩), .int .i64 j, .int .i64 d] w fun e w' => e = .returned (.tuple #[]) ∧ Own w0 F0 (memA T m (ws.set i d) l :: L) w' := by
  subst hj; exact rPoke_any i d hn h
set_option maxHeartbeats 1000000 in
theorem rFresh_any (c : Cf) (hr : c.Rt) {vl : Value} (hl : ∀ w', Own w0 F0 L w' → IntsAt w' .i64 vl c.ls) (h : Own w0 F0 L w) :
    Calls Tryz.prog 78 #[cfV c (.slice pp c.ps.length cp) vl] w (RetMem w0 F0 L 43 (freshW c c.ps.length) []) := by
  obtain ⟨b, off, cap, rfl, hb⟩ := (hl w h).at (by have := hr.n0; have := hr.ll; omega)
  have HL := Lib.hid hl
  obtain ⟨z1, z2⟩ := sizeN_eq hr
  have HLL := Lib.hid hr.ll
  have n0 := hr.n0
  have n1 := hr.n1
  have ti := hr.ti
  have hs := hr.sm
  have H1 := fun w => Lib.hid (rSize_q (pp := pp) (np := c.ps.length) (cp := cp) (pl := some ⟨b, off, none⟩) (nl := c.ls.length) (cl := cap) c hs (by omega) (by have := ti.1; omega) ti.2 w)
  rw [z1] at H1
  have h1 := h.new (cfO c (.slice pp c.ps.length cp) (.slice (some ⟨b, off, none⟩) c.ls.length cap))
  have HO1 := Lib.hid h1
  clear z1 ti hb hl h h1 hr
  go_enter Tryz.func78, Tryz.ntmps78
  go_wp2_with fail
  refine (H1 _).out.mono ?_
  rintro e w1 ⟨rfl, hB⟩
  have HO2 := Lib.hid (HO1.out.below hB)
  have HN := Lib.hid (rNew_any (sizeN c) (by omega) HO2.out)
  clear H1 HO1 hB
  go_wp2_with fail
  refine HN.out.mono ?_
  rintro e w2 ⟨m, rfl, hO⟩
  have HO3 := Lib.hid (show Own w0 F0 (memA 43 m (freshW c 0) [] :: blk w.heap.size (cfO c (.slice pp c.ps.length cp) (.slice (some ⟨b, off, none⟩) c.ls.length cap)) :: L) w2 from hO)
  clear hO HN HO2
  go_wp2_with fail
  go_loopw [4] (fun i wr => ∃ k : Nat, k ≤ c.ps.length ∧ i = .int .i64 k ∧ Own w0 F0 (memA 43 m (freshW c k) [] :: blk w.heap.size (cfO c (.slice pp c.ps.length cp) (.slice (some ⟨b, off, none⟩) c.ls.length cap)) :: L) wr) (fun i _ => c.ps.length - (intOf i).toNat)
  case atStart => exact ⟨0, by omega, rfl, HO3.out⟩
  case round =>
    obtain ⟨k, hk, rfl, hO⟩ := hrel
    obtain ⟨d0, d1, d2, d3, d4, d5, d6, d7⟩ := conf_cells hO.swap
    by_cases hlt : k < c.ps.length
    · have hltl : k < c.ls.length := by have := HLL.out; omega
      have hle : c.ls.length ≤ 12 := by have := HLL.out; omega
      obtain ⟨z, hz⟩ : ∃ z, z = c.ls.getD k 0 := ⟨_, rfl⟩
      have HZ : ∀ w', Own w0 F0 L w' → w'.cell? ⟨b, off + k, none⟩ = some (.int .i64 z) := fun w' h' => by
        obtain ⟨b', off', cap', he, hc⟩ := (HL.out w' h').at (by omega)
        injection he with he1 he2 he3
        injection he1 with he1
        injection he1 with he4 he5 he6
        subst he4 he5
        rw [hz]
        exact hc k hltl
      have dz := HZ _ hO.drop.drop
      have hlen : (freshW c k).length ≤ 1000000 := by rw [freshW_len]; omega
      have hq := limN_eq hs k
      have hb := lim_bd hs (show (0 : Int) ≤ k by omega) (by omega)
      have Q1 := fun w => Lib.hid (rLimit_q (pp := pp) (np := c.ps.length) (cp := cp) (pl := some ⟨b, off, none⟩) (nl := c.ls.length) (cl := cap) c hs k (by omega) (by omega) w)
      have Q2 := fun w => Lib.hid (rAvail_q (pp := pp) (np := c.ps.length) (cp := cp) (pl := some ⟨b, off, none⟩) (nl := c.ls.length) (cl := cap) c hs k (by omega) (by omega) w)
      have Q3 := fun w => Lib.hid (rCounter_q (pp := pp) (np := c.ps.length) (cp := cp) (pl := some ⟨b, off, none⟩) (nl := c.ls.length) (cl := cap) c hs k (by omega) (by omega) w)
      obtain ⟨s0, s1⟩ := hs
      have P1 := fun w' (h : Own w0 F0 (memA 43 m (freshW c k) [] :: blk w.heap.size (cfO c (.slice pp c.ps.length cp) (.slice (some ⟨b, off, none⟩) c.ls.length cap)) :: L) w') => Lib.hid (rPoke_at (i := limN c k) (j := lim c k) (by exact hq) (d := z) (by exact hlen) h)
      have P2 := fun w' (h : Own w0 F0 (memA 43 m ((freshW c k).set (limN c k) z) [] :: blk w.heap.size (cfO c (.slice pp c.ps.length cp) (.slice (some ⟨b, off, none⟩) c.ls.length cap)) :: L) w') => Lib.hid (rPoke_at (i := limN c k + 1) (j := lim c k + 1) (by omega) (d := z) (by simpa using hlen) h)
      have P3 := fun w' (h : Own w0 F0 (memA 43 m (((freshW c k).set (limN c k) z).set (limN c k + 1) z) [] :: blk w.heap.size (cfO c (.slice pp c.ps.length cp) (.slice (some ⟨b, off, none⟩) c.ls.length cap)) :: L) w') => Lib.hid (rPoke_at (i := limN c k + (5 + c.st.toNat)) (j := lim c k + 2 + c.st + 3) (by omega) (d := 1) (by simpa using hlen) h)
      have HE := Lib.hid (show ((freshW c k).set (limN c k) z |>.set (limN c k + 1) z).set (limN c k + (5 + c.st.toNat)) 1 = freshW c (k + 1) by rw [hz]; rfl)
      have hOd := hO.drew
      clear hz hlen hq hO HL
      generalize lim c k = q at *
      go_wp2_with fail
      go_region_held3 (fun w' => w'.cell? ⟨w.heap.size, 0, none⟩ = some (.int .i64 c.th) ∧ w'.cell? ⟨w.heap.size, 1, none⟩ = some (.int .i64 c.st) ∧ w'.cell? ⟨w.heap.size, 2, none⟩ = some (.int .i64 c.ga) ∧ w'.cell? ⟨w.heap.size, 3, none⟩ = some (.int .i64 c.le) ∧ w'.cell? ⟨w.heap.size, 4, none⟩ = some (.int .i64 c.re) ∧ w'.cell? ⟨w.heap.size, 5, none⟩ = some (.int .i64 c.ti) ∧ w'.cell? ⟨w.heap.size, 6, none⟩ = some (.slice pp c.ps.length cp) ∧ w'.cell? ⟨w.heap.size, 7, none⟩ = some (.slice (some ⟨b, off, none⟩) c.ls.length cap) ∧ w'.cell? ⟨b, off + k, none⟩ = some (.int .i64 z)) (go_keep) (first | (go_at_call 72; refine (Q1 _).out.mono ?_; rintro e w' ⟨rfl, hB⟩; have hO := Own.below (by with_reducible assumption) hB; obtain ⟨d0, d1, d2, d3, d4, d5, d6, d7⟩ := conf_cells hO.swap; have dz := HZ _ hO.drop.drop) | (go_at_call 60; refine (P1 _ (by with_reducible assumption)).out.mono ?_; rintro e w' ⟨rfl, hO⟩; obtain ⟨d0, d1, d2, d3, d4, d5, d6, d7⟩ := conf_cells hO.swap; have dz := HZ _ hO.drop.drop))
      all_goals
        clear hOd
        have hOd := hO.drew
        clear hO
        go_wp2_with fail
        go_region_held3 (fun w' => w'.cell? ⟨w.heap.size, 0, none⟩ = some (.int .i64 c.th) ∧ w'.cell? ⟨w.heap.size, 1, none⟩ = some (.int .i64 c.st) ∧ w'.cell? ⟨w.heap.size, 2, none⟩ = some (.int .i64 c.ga) ∧ w'.cell? ⟨w.heap.size, 3, none⟩ = some (.int .i64 c.le) ∧ w'.cell? ⟨w.heap.size, 4, none⟩ = some (.int .i64 c.re) ∧ w'.cell? ⟨w.heap.size, 5, none⟩ = some (.int .i64 c.ti) ∧ w'.cell? ⟨w.heap.size, 6, none⟩ = some (.slice pp c.ps.length cp) ∧ w'.cell? ⟨w.heap.size, 7, none⟩ = some (.slice (some ⟨b, off, none⟩) c.ls.length cap) ∧ w'.cell? ⟨b, off + k, none⟩ = some (.int .i64 z)) (go_keep) (first | (go_at_call 56; refine (Q2 _).out.mono ?_; rintro e w' ⟨rfl, hB⟩; have hO := Own.below (by with_reducible assumption) hB; obtain ⟨d0, d1, d2, d3, d4, d5, d6, d7⟩ := conf_cells hO.swap; have dz := HZ _ hO.drop.drop) | (go_at_call 60; refine (P2 _ (by with_reducible assumption)).out.mono ?_; rintro e w' ⟨rfl, hO⟩; obtain ⟨d0, d1, d2, d3, d4, d5, d6, d7⟩ := conf_cells hO.swap; have dz := HZ _ hO.drop.drop))
      all_goals
        clear hOd
        go_wp2_with fail
        refine (Q3 _).out.mono ?_
        rintro e w7 ⟨rfl, hB⟩
        have hO := Own.below hO hB
        go_wp2_with fail
        refine (P3 _ hO).out.mono ?_
        rintro e w8 ⟨rfl, hO⟩
        rw [HE.out] at hO
        have HO8 := Lib.hid hO
        clear hO hB
        go_wp2_with fail
        go_roundw
        case rel => exact ⟨k + 1, by omega, by go_num, HO8.out⟩
        case measure => simp [intOf]; omega
    · have hge : c.ps.length ≤ k := by omega
      have hkl : k = c.ps.length := by omega
      rw [hkl] at hO
      have HO := Lib.hid hO
      clear hO hkl
      go_wp2_with fail
      go_ret
      exact ⟨_, rfl, HO.out.under fun _ _ h => h.drop⟩
end Go.Proofs.YtjfjjmlocgmicaaGreat
end
