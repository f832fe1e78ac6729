/- Texts of elder layers, one behind the other: UseHeld, PoolRef3. -/
import Derived.Test.YtlpdafldabfiaaaGreatC34
section
namespace Go.Proofs.YtlpdafldabfiaaaGreat
open Go.ChangeShapes Go.WideShapes Go.ChangeAt Go.RowKit Go.Shelf
set_option linter.unusedVariables false
set_option linter.unusedSimpArgs false
set_option maxRecDepth 100000
variable {w0 w w' : World} {F0 : Nat → Prop} {L : List Asn} {ws : List Int} {c : Cf} {pp pl : Option Addr} {cp cl : Nat} {vr : Value}
def leS (c : Cf) (u : Nat) (ws : List Int) (k : Nat) : Int := wrap64 (sK (fun i => ws.getD (leN c u i) 0) k)
theorem leS_succ (u k : Nat) : wrap64 (leS c u ws k + ws.getD (leN c u k) 0) = leS c u ws (k + 1) := by
  unfold leS
  rw [sK]
  unfold wrap64; omega
set_option maxHeartbeats 1000000 in
theorem lLeased_any (hr : c.Rt) (hlen : ws.length = sizeN c) (u : Nat) (hu : u < c.ps.length) (hv : IntsAt w .i64 vr ws) :
    Calls Tryz.prog 52 #[.agg (lA c (.slice pp c.ps.length cp) (.slice pl c.ls.length cl) vr), .int .i64 (u : Nat)] w fun e w' => e = .returned (.int .i64 (leS c u ws c.st.toNat)) ∧ Below w.heap.size w w' := by
  have hsz := sizeN_bd hr
  have hn1 := hr.n1
  have st := st_nat hr
  have hlt := limN_lt c hu
  have hN : ∀ k, k < c.st.toNat → leN c u k < ws.length := fun k hk => by rw [hlen]; unfold leN sizeN; omega
  have HL := fun (k : Nat) (hk : k < c.st.toNat) w => Lib.hid (show Calls Tryz.prog 96 #[cfV c (.slice pp c.ps.length cp) (.slice pl c.ls.length cl), .int .i64 (u : Nat), .int .i64 (k : Nat)] w fun e w' => e = .returned (.int .i64 (leN c u k : Nat)) ∧ Below w.heap.size w w' from by
    have h := Lease_q (pp := pp) (np := c.ps.length) (cp := cp) (pl := pl) (nl := c.ls.length) (cl := cl) c hr.sm (u : Int) (by omega) (by omega) (k : Int) (by omega) (by omega) w
    rw [limN_eq hr.sm] at h; unfold leN; push_cast; exact h)
  have HA := fun (k : Nat) (hk : k < c.st.toNat) w (hv : IntsAt w .i64 vr ws) => Lib.hid (lAt_any (c := c) (vp := .slice pp c.ps.length cp) (vl := .slice pl c.ls.length cl) (leN c u k) (hN k hk) (by omega) hv)
  have h1 := (Own.start w).new (lO c (.slice pp c.ps.length cp) (.slice pl c.ls.length cl) vr)
  have HV := Lib.hid (hv.below h1.toBelow)
  obtain ⟨d0, d1, d2, d3, d4, d5, d6, d7, d8⟩ := lCells h1
  have H1 := Lib.hid h1
  have HS := Lib.hid (fun k => leS_succ (c := c) (ws := ws) u k)
  have e0 : leS c u ws 0 = 0 := by unfold leS; rw [sK]; unfold wrap64; omega
  have He0 := Lib.hid e0
  obtain ⟨S, hS⟩ : ∃ S, S = c.st.toNat := ⟨_, rfl⟩
  rw [← hS] at HL HA ⊢
  have hst : c.st = (S : Int) := by omega
  have hS8 : S ≤ 8 := by omega
  rw [hst] at d1
  have Hst := Lib.hid hst
  clear h1 hsz hn1 st hlt hN hS hst e0 hv hr hlen
  have m1 : (S : Int) ≤ 8 := by omega
  have m2 : ¬ (8 : Int) < (S : Int) := by omega
  go_enter Tryz.func52, Tryz.ntmps52
  go_wp2_with fail
  generalize w.heap.size = C at *
  clear d0 d1 d2 d3 d4 d5 d6 d7 d8
  go_loopw [5, 11] (fun v5 v11 wr => ∃ k : Nat, k ≤ S ∧ v5 = .int .i64 (leS c u ws k) ∧ v11 = .int .i64 k ∧ Own w (fun _ => False) [blk C (lO c (.slice pp c.ps.length cp) (.slice pl c.ls.length cl) vr)] wr ∧ IntsAt wr .i64 vr ws) (fun v5 v11 _ => S - (intOf v11).toNat)
  case atStart => exact ⟨0, by omega, by rw [He0.out], rfl, H1.out, HV.out⟩
  case round =>
    obtain ⟨k, hk, rfl, rfl, hO, hI⟩ := hrel
    clear H1 HV
    obtain ⟨d0, d1, d2, d3, d4, d5, d6, d7, d8⟩ := lCells hO
    have HO := Lib.hid hO
    have HI := Lib.hid hI
    clear hO hI
    by_cases hlt : k < S
    · have g1 : (k : Int) < (S : Int) := by omega
      have C1 := fun d os => Calls.regrown_of (HL k hlt (Go.Sort.grow (redrawn wr d) os)).out
      have C2 := fun d os => Calls.regrown_of (HA k hlt (Go.Sort.grow (redrawn wr d) os) (HI.out.below (below_regrown _ d os))).out
      have Hs := Lib.hid (HS.out k)
      have k0 := cell_regrown d0
      have k1 := cell_regrown d1
      have k2 := cell_regrown d2
      have k3 := cell_regrown d3
      have k4 := cell_regrown d4
      have k5 := cell_regrown d5
      have k6 := cell_regrown d6
      have k7 := cell_regrown d7
      have k8 := cell_regrown d8
      clear HL HA HS d0 d1 d2 d3 d4 d5 d6 d7 d8
      generalize leS c u ws k = s0 at *
      generalize ws.getD (leN c u k) 0 = y at *
      generalize leN c u k = j at *
      go_wp2_with fail
      refine wp_region_quiet_below (by kernel_rfl) (by kernel_rfl) ?_
      repeat (go_big_quiet_step (first | (go_at_call 96; with_reducible exact C1 _ _) | (go_at_call 49; with_reducible exact C2 _ _)))
      refine wpQuiet_nil ?_
      intro _ hw'
      obtain ⟨⟨dq, osq⟩, hw''⟩ := hw'
      subst hw''
      have HO2 := Lib.hid (HO.out.below (below_regrown _ dq osq))
      have HI2 := Lib.hid (HI.out.below (below_regrown _ dq osq))
      clear k0 k1 k2 k3 k4 k5 k6 k7 k8 C1 C2 HO HI
      go_wp2_with fail
      go_roundw
      case rel => exact ⟨k + 1, by omega, by rw [← Hs.out], by go_num, HO2.out, HI2.out⟩
      case measure => simp [intOf]; omega
    · obtain rfl : k = S := by omega
      have hB := Lib.hid HO.out.toBelow
      go_wp2_with fail
      go_ret
      exact ⟨rfl, hB.out⟩
theorem held_wrap2 (a b d e : Int) : wrap64 (wrap64 (wrap64 (a - b) - wrap64 d) - e) = wrap64 (a - (b + d) - e) := by unfold wrap64; omega
set_option maxHeartbeats 1000000 in
theorem uHeld_any (hr : c.Rt) (hlen : ws.length = sizeN c) (hwf : ∀ k, I64 (ws.getD k 0)) (u : Nat) (hu : u < c.ps.length) (hv : IntsAt w .i64 vr ws) (hp : IntsAt w .i64 (.slice pp c.ps.length cp) c.ps) (hl : IntsAt w .i64 (.slice pl c.ls.length cl) c.ls) :
    Calls Tryz.prog 17 #[cfV c (.slice pp c.ps.length cp) (.slice pl c.ls.length cl), vr, .int .i64 (u : Nat)] w fun e w' => e = .returned (.int .i64 (heldW c ws u)) ∧ Below w.heap.size w w' := by
  obtain ⟨pv, cv, rfl⟩ := hv.slice
  have hsz := sizeN_bd hr
  have hn1 := hr.n1
  have st := st_nat hr
  have hlt := limN_lt c hu
  have g0 : limN c u < ws.length ∧ avN c u < ws.length := by rw [hlen]; unfold avN sizeN; omega
  have hX : ∀ w, Calls Tryz.prog 50 #[cfV c (.slice pp c.ps.length cp) (.slice pl c.ls.length cl), .int .i64 (u : Nat)] w fun e w' => e = .returned (.int .i64 (limN c u : Nat)) ∧ Below w.heap.size w w' := fun w => by
    have h := Limit_q (pp := pp) (np := c.ps.length) (cp := cp) (pl := pl) (nl := c.ls.length) (cl := cl) c hr.sm (u : Int) (by omega) (by omega) w
    rw [limN_eq hr.sm] at h; exact h
  have hY : ∀ w, Calls Tryz.prog 51 #[cfV c (.slice pp c.ps.length cp) (.slice pl c.ls.length cl), .int .i64 (u : Nat)] w fun e w' => e = .returned (.int .i64 (avN c u : Nat)) ∧ Below w.heap.size w w' := fun w => by
    have h := Avail_q (pp := pp) (np := c.ps.length) (cp := cp) (pl := pl) (nl := c.ls.length) (cl := cl) c hr.sm (u : Int) (by omega) (by omega) w
    rw [limN_eq hr.sm] at h; unfold avN; push_cast; exact h
  have hA := fun (i : Nat) (hi : i < ws.length) w (hv : IntsAt w .i64 (.slice pv ws.length cv) ws) => lAt_any (c := c) (vp := .slice pp c.ps.length cp) (vl := .slice pl c.ls.length cl) i hi (by omega) hv
  have hA1 := fun w hv => hA (limN c u) g0.1 w hv
  have hA2 := fun w hv => hA (avN c u) g0.2 w hv
  have hW := fun w hv => lLeased_any (w := w) (pp := pp) (cp := cp) (pl := pl) (cl := cl) hr hlen u hu (vr := .slice pv ws.length cv) hv
  have hZ := fun w hv hp hl => lUsed_any (w := w) (pp := pp) (cp := cp) (pl := pl) (cl := cl) hr hlen hwf u (vr := .slice pv ws.length cv) hv hp hl
  have h1 := (Own.start w).new (cfO c (.slice pp c.ps.length cp) (.slice pl c.ls.length cl))
  have h2 := h1.new (lO c (.slice pp c.ps.length cp) (.slice pl c.ls.length cl) (.slice pv ws.length cv))
  simp only [World.size_alloc] at h2
  have hb2 := h2.toBelow
  have hv1 := hv.below hb2
  have hp1 := hp.below hb2
  have hl1 := hl.below hb2
  obtain ⟨R, hR⟩ : ∃ R, R = heldW c ws u := ⟨_, rfl⟩
  rw [← hR]
  have hR' : wrap64 (wrap64 (wrap64 (ws.getD (limN c u) 0 - ws.getD (avN c u) 0) - leS c u ws c.st.toNat) - usedU c ws u) = R := by
    rw [hR]; unfold leS; rw [held_wrap2]; rfl
  have HR := Lib.hid hR'
  have H2 := Lib.hid h2
  obtain ⟨d0, d1, d2, d3, d4, d5, d6, d7⟩ := conf_cells h1
  obtain ⟨x0, x1, x2, x3, x4, x5, x6, x7⟩ := conf_cells h2.swap
  obtain ⟨y0, y1, y2, y3, y4, y5, y6, y7, y8⟩ := lCells h2
  clear hR hR' hb2 hsz st hlt g0 hv hp hl hr hlen hwf h1 h2 hA
  generalize leS c u ws c.st.toNat = le at *
  generalize usedU c ws u = uu at *
  generalize ws.getD (limN c u) 0 = li at *
  generalize ws.getD (avN c u) 0 = ai at *
  generalize limN c u = ln at *
  generalize avN c u = an at *
  go_enter Tryz.func17, Tryz.ntmps17
  go_wp2_with fail
  clear d0 d1 d2 d3 d4 d5 d6 d7
  generalize w.heap.size = C at *
  generalize World.alloc (World.alloc w _) _ = w1 at *
  have C1 := fun d os => Calls.regrown_of (hX (Go.Sort.grow (redrawn w1 d) os))
  have C2 := fun d os => Calls.regrown_of (hY (Go.Sort.grow (redrawn w1 d) os))
  have C3 := fun d os => Calls.regrown_of (hA1 (Go.Sort.grow (redrawn w1 d) os) (hv1.below (below_regrown _ d os)))
  have C4 := fun d os => Calls.regrown_of (hA2 (Go.Sort.grow (redrawn w1 d) os) (hv1.below (below_regrown _ d os)))
  have C5 := fun d os => Calls.regrown_of (hW (Go.Sort.grow (redrawn w1 d) os) (hv1.below (below_regrown _ d os)))
  have C6 := fun d os => Calls.regrown_of (hZ (Go.Sort.grow (redrawn w1 d) os) (hv1.below (below_regrown _ d os)) (hp1.below (below_regrown _ d os)) (hl1.below (below_regrown _ d os)))
  clear hX hY hA1 hA2 hW hZ hv1 hp1 hl1
  have k0 := cell_regrown x0
  have k1 := cell_regrown x1
  have k2 := cell_regrown x2
  have k3 := cell_regrown x3
  have k4 := cell_regrown x4
  have k5 := cell_regrown x5
  have k6 := cell_regrown x6
  have k7 := cell_regrown x7
  have q0 := cell_regrown y0
  have q1 := cell_regrown y1
  have q2 := cell_regrown y2
  have q3 := cell_regrown y3
  have q4 := cell_regrown y4
  have q5 := cell_regrown y5
  have q6 := cell_regrown y6
  have q7 := cell_regrown y7
  have q8 := cell_regrown y8
  clear x0 x1 x2 x3 x4 x5 x6 x7 y0 y1 y2 y3 y4 y5 y6 y7 y8
  refine wp_region_quiet_below (by kernel_rfl) (by kernel_rfl) ?_
  repeat (go_big_quiet_step (first | (go_at_call 50; with_reducible exact C1 _ _) | (go_at_call 51; with_reducible exact C2 _ _) | (go_at_call 49; with_reducible exact C3 _ _) | (go_at_call 49; with_reducible exact C4 _ _) | (go_at_call 52; with_reducible exact C5 _ _) | (go_at_call 48; with_reducible exact C6 _ _)))
  refine wpQuiet_nil ?_
  intro _ hw'
  obtain ⟨⟨dq, osq⟩, hw''⟩ := hw'
  subst hw''
  have HB := Lib.hid ((H2.out.below (below_regrown _ dq osq)).toBelow)
  clear k0 k1 k2 k3 k4 k5 k6 k7 q0 q1 q2 q3 q4 q5 q6 q7 q8 C1 C2 C3 C4 C5 C6 H2
  go_wp2_with fail
  go_ret
  exact ⟨by rw [← HR.out]; rfl, HB.out⟩
end Go.Proofs.YtlpdafldabfiaaaGreat
end
section
namespace Go.Proofs.YtlpdafldabfiaaaGreat
open Go.ChangeShapes Go.WideShapes Go.ChangeAt Go.RowKit Go.Shelf
set_option linter.unusedVariables false
set_option maxRecDepth 100000
variable {w0 w w' : World} {F0 : Nat → Prop} {L : List Asn} {T : TypeId} {m : Nat} {ws : List Int} {lg : List Acc} {pp pl : Option Addr} {np cp nl cl : Nat}
set_option maxHeartbeats 1000000 in
theorem rNewP_any (c : Cf) {vp vl : Value} (hs : c.Rt) (hp : ∀ w', Own w0 F0 L w' → IntsAt w' .i64 vp c.ps) (hl : ∀ w', Own w0 F0 L w' → IntsAt w' .i64 vl c.ls) (v n s : Int) (p : PP) (p2 : p.n = n) (h : Own w0 F0 L w) :
    Calls Tryz.prog 137 #[cfV c vp vl, .int .i64 v, .int .i64 n, .int .i64 s] w fun e w' =>
      ∃ k a1 c1 a2 c2, e = .returned (.pointer (some ⟨k, 0, none⟩)) ∧ Own w0 F0 (rpA k c a1 c.ps.length c1 a2 c.ls.length c2 v s p s0P :: L) w' := by
  have h1 := h.new (cfO c vp vl)
  have HO := Lib.hid (rOwn_any (w := w.alloc (cfO c vp vl)) c (hp _ (h1.drop)) (hl _ (h1.drop)) (by have := hs.n0; omega) (by have := hs.n1; omega) (by have := hs.n0; have := hs.ll; omega) (by have := hs.n1; have := hs.ll; omega))
  have H1 := Lib.hid h1.drop
  have hc := conf_cells h1
  subst p2
  obtain ⟨d0, d1, d2, d3, d4, d5, d6, d7⟩ := hc
  clear h h1 hp hl hs
  go_enter Tryz.func137, Tryz.ntmps137
  go_wp2_with fail
  refine HO.out.mono ?_
  rintro e w1 ⟨a1, c1, a2, c2, rfl, hB⟩
  have HF := Lib.hid ((H1.out.below hB).new (rmO c a1 c.ps.length c1 a2 c.ls.length c2 v p.n s 0 0 0 0 0 0))
  unfold rmO at HF
  clear H1 hB HO d0 d1 d2 d3 d4 d5 d6 d7
  go_wp2_with fail
  go_ret
  exact ⟨_, a1, c1, a2, c2, rfl, HF.out⟩
end Go.Proofs.YtlpdafldabfiaaaGreat
end
