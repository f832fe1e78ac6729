/- Texts of elder layers, one behind the other: AskOwn, Crew. -/
import Derived.Test.YtjohngpbggendaaGreatB43
import Derived.Laws.MakeOwn
section
/- breadlinelaw12.own: what a log's accesses added to what is left of a node; leftOf: what is left of it. Written by tools/gen_askown.py. -/
namespace Go.Proofs.YtjohngpbggendaaGreat
open Go.ChangeShapes Go.WideShapes Go.ChangeAt Go.RowKit Go.Shelf
set_option linter.unusedVariables false
set_option linter.unusedSimpArgs false
set_option maxRecDepth 100000
variable {w0 w w' W : World} {F0 : Nat → Prop} {L : List Asn} {ws : List Int} {lg : List Acc}
theorem ownU_take (c : Cf) (u : Nat) (l : List Acc) (k : Nat) (hk : k < l.length) : ownU c u (l.take (k + 1)) = ownU c u (l.take k) + ownX c u (l.getD k ⟨0, 0, 0, 0, false⟩) := by
  rw [List.take_add_one, List.getElem?_eq_getElem hk]
  have : l.getD k ⟨0, 0, 0, 0, false⟩ = l[k] := by simp [List.getD, hk]
  rw [this]
  exact ownU_app _ _ _ _
set_option maxHeartbeats 4000000 in
theorem aOwn_any {c : Cf} (hr : c.Rt) {pp pl : Option Addr} {cp cl : Nat} {v : Value} (u : Nat) (hu : u < c.ps.length) (hn : lg.length ≤ 1000000) (hv : LogAt w v lg) :
    Calls Tryz.prog 26 #[cfV c (.slice pp c.ps.length cp) (.slice pl c.ls.length cl), v, .int .i64 u] w fun e w' => e = .returned (.int .i64 (wrap64 (ownU c u lg))) ∧ Below w.heap.size w w' := by
  have n1 := hr.n1
  have st := st_nat hr
  have hlim := limN_eq hr.sm u
  have hst := hr.sm
  have HA := fun w => (show Calls Tryz.prog 30 #[cfV c (.slice pp c.ps.length cp) (.slice pl c.ls.length cl), .int .i64 u] w fun e w' => e = .returned (.int .i64 (avN c u)) ∧ Below w.heap.size w w' from by
    have h := rAvail_q (pp := pp) (np := c.ps.length) (cp := cp) (pl := pl) (nl := c.ls.length) (cl := cl) c hst (u : Int) (by omega) (by omega) w
    rw [hlim] at h; unfold avN; push_cast; exact h)
  have HL := fun w => (show Calls Tryz.prog 59 #[cfV c (.slice pp c.ps.length cp) (.slice pl c.ls.length cl), .int .i64 u, .int .i64 0] w fun e w' => e = .returned (.int .i64 (leN c u 0)) ∧ Below w.heap.size w w' from by
    have h := rLease_q (pp := pp) (np := c.ps.length) (cp := cp) (pl := pl) (nl := c.ls.length) (cl := cl) c hst (u : Int) (by omega) (by omega) 0 (by omega) (by omega) w
    rw [hlim] at h; rw [show ((leN c u 0 : Nat) : Int) = (limN c u : Int) + 2 + 0 from by unfold leN; omega]; exact h)
  have HC := fun w => (show Calls Tryz.prog 61 #[cfV c (.slice pp c.ps.length cp) (.slice pl c.ls.length cl), .int .i64 u] w fun e w' => e = .returned (.int .i64 (ctN c u)) ∧ Below w.heap.size w w' from by
    have h := rCounter_q (pp := pp) (np := c.ps.length) (cp := cp) (pl := pl) (nl := c.ls.length) (cl := cl) c hst (u : Int) (by omega) (by omega) w
    rw [hlim, st.1] at h; unfold ctN; push_cast; push_cast at h; exact h)
  have HX := Lib.hid (fun (x : Acc) (hx : x.w = (avN c u : Int) ∨ ((leN c u 0 : Int) ≤ x.w ∧ x.w < (ctN c u : Int))) => show ownX c u x = ownA x from if_pos hx)
  have HY := Lib.hid (fun (x : Acc) (hx : x.w ≠ (avN c u : Int)) (hy : x.w < (leN c u 0 : Int) ∨ (ctN c u : Int) ≤ x.w) => show ownX c u x = 0 from if_neg (by unfold InU; omega))
  have Ht := Lib.hid (ownU_take c u lg)
  have Hall := Lib.hid (show ownU c u lg = ownU c u (lg.take lg.length) by rw [List.take_length])
  have Hz := Lib.hid (show wrap64 (ownU c u (lg.take 0)) = 0 by simp [ownU, wrap64])
  rw [Hall.out]
  clear hlim hst st hr hu
  generalize ownU c u = ow at *
  generalize ownX c u = ox at *
  generalize (avN c u : Int) = AV at *
  generalize (leN c u 0 : Int) = LE at *
  generalize (ctN c u : Int) = CT at *
  have h1 := (Own.start w).new (cfO c (.slice pp c.ps.length cp) (.slice pl c.ls.length cl))
  have H1 := Lib.hid h1
  obtain ⟨pv, cv, rfl⟩ : ∃ p q, v = .slice p lg.length q := by
    rcases hv with ⟨e, p, q, rfl⟩ | ⟨_, b, off, q, rfl, _⟩
    · exact ⟨p, q, by rw [e]; rfl⟩
    · exact ⟨_, q, rfl⟩
  have HV := Lib.hid hv
  clear h1 hv
  go_enter Tryz.func26, Tryz.ntmps26
  go_wp2_with fail
  go_loopw [7, 8] (fun v7 v8 wr => ∃ k : Nat, k ≤ lg.length ∧ v7 = .int .i64 (wrap64 (ow (lg.take k))) ∧ v8 = .int .i64 k ∧ Own w NoF (blk w.heap.size (cfO c (.slice pp c.ps.length cp) (.slice pl c.ls.length cl)) :: []) wr) (fun v7 v8 _ => lg.length - (intOf v8).toNat)
  case atStart => exact ⟨0, Nat.zero_le _, by rw [Hz.out], rfl, H1.out⟩
  case round =>
    obtain ⟨k, hk, rfl, rfl, hO⟩ := hrel
    clear H1 Hz
    by_cases hlt : k < lg.length
    · obtain ⟨b, off, cap, he, hb⟩ := HV.out.at (by omega)
      injection he with he _ he2
      subst he he2
      have HTk := Lib.hid (Ht.out k hlt)
      obtain ⟨x, hx⟩ : ∃ x, x = lg.getD k ⟨0, 0, 0, 0, false⟩ := ⟨_, rfl⟩
      rw [← hx] at HTk
      obtain ⟨x0, x1, x2, x3, x4⟩ := x
      have hB := hO.toBelow
      have y0 : w.cell? ⟨b, off + k * 5, none⟩ = some (.int .i64 x0) := by have := hb k 0 hlt (by omega); rw [← hx] at this; exact this
      have y1 : w.cell? ⟨b, off + k * 5 + 1, none⟩ = some (.int .i64 x1) := by have := hb k 1 hlt (by omega); rw [← hx] at this; exact this
      have y2 : w.cell? ⟨b, off + k * 5 + 2, none⟩ = some (.int .i64 x2) := by have := hb k 2 hlt (by omega); rw [← hx] at this; exact this
      have y3 : w.cell? ⟨b, off + k * 5 + 3, none⟩ = some (.int .i64 x3) := by have := hb k 3 hlt (by omega); rw [← hx] at this; exact this
      have y4 : w.cell? ⟨b, off + k * 5 + 4, none⟩ = some (.bool x4) := by have := hb k 4 hlt (by omega); rw [← hx] at this; exact this
      have hbW : b < w.heap.size := World.block_lt_of_cell? w _ y0
      have HS := Lib.hid (show ∀ w', Below w.heap.size w w' → w'.cell? ⟨b, off + k * 5, none⟩ = some (.int .i64 x0) ∧ w'.cell? ⟨b, off + k * 5 + 1, none⟩ = some (.int .i64 x1) ∧ w'.cell? ⟨b, off + k * 5 + 2, none⟩ = some (.int .i64 x2) ∧ w'.cell? ⟨b, off + k * 5 + 3, none⟩ = some (.int .i64 x3) ∧ w'.cell? ⟨b, off + k * 5 + 4, none⟩ = some (.bool x4) from fun w' hs => ⟨(Below.cell hs (p := ⟨b, off + k * 5, none⟩) hbW).trans y0, (Below.cell hs (p := ⟨b, off + k * 5 + 1, none⟩) hbW).trans y1, (Below.cell hs (p := ⟨b, off + k * 5 + 2, none⟩) hbW).trans y2, (Below.cell hs (p := ⟨b, off + k * 5 + 3, none⟩) hbW).trans y3, (Below.cell hs (p := ⟨b, off + k * 5 + 4, none⟩) hbW).trans y4⟩)
      clear y0 y1 y2 y3 y4 hbW hb hx HV Hall
      obtain ⟨b0, b1, b2, b3, b4⟩ := HS.out _ hB
      obtain ⟨d0, d1, d2, d3, d4, d5, d6, d7⟩ := conf_cells hO
      have k0 := cell_regrown b0
      have k1 := cell_regrown b1
      have k2 := cell_regrown b2
      have k3 := cell_regrown b3
      have k4 := cell_regrown b4
      have k5 := cell_regrown d0
      have k6 := cell_regrown d1
      have k7 := cell_regrown d2
      have k8 := cell_regrown d3
      have k9 := cell_regrown d4
      have k10 := cell_regrown d5
      have k11 := cell_regrown d6
      have k12 := cell_regrown d7
      have CA := fun (d : Nat) (os : Array Obj) => Calls.regrown_of (HA (Go.Sort.grow (redrawn wr d) os))
      have CL := fun (d : Nat) (os : Array Obj) => Calls.regrown_of (HL (Go.Sort.grow (redrawn wr d) os))
      have CC := fun (d : Nat) (os : Array Obj) => Calls.regrown_of (HC (Go.Sort.grow (redrawn wr d) os))
      have hkl : (k : Int) < (lg.length : Int) := by omega
      have HRG := Lib.hid (fun (d : Nat) (os : Array Obj) => hO.below (below_regrown wr d os))
      clear hO hB HA HL HC
      by_cases q0 : x1 = AV
      · have HXX := Lib.hid (HX.out ⟨x0, x1, x2, x3, x4⟩ (Or.inl q0))
        subst q0
        go_wp2_with fail
        clear b0 b1 b2 b3 b4 d0 d1 d2 d3 d4 d5 d6 d7
        try dsimp only [List.append]
        refine wp_region_quiet_below (by kernel_rfl) (by kernel_rfl) ?_
        repeat (go_big_quiet_step ((first | (go_at_call 30; with_reducible exact CA _ _) | (go_at_call 59; with_reducible exact CL _ _) | (go_at_call 61; with_reducible exact CC _ _))))
        refine wpQuiet_nil ?_
        intro _ hw'
        obtain ⟨⟨dq, osq⟩, hw''⟩ := hw'
        subst hw''
        have hO := HRG.out dq osq
        clear HRG CA CL CC k0 k1 k2 k3 k4 k5 k6 k7 k8 k9 k10 k11 k12
        generalize Go.Sort.grow (redrawn wr dq) osq = w2 at *
        obtain ⟨b0, b1, b2, b3, b4⟩ := HS.out _ hO.toBelow
        have HO := Lib.hid hO
        clear hO
        generalize ow (lg.take k) = s at *
        by_cases h2 : x0 = 2
        · subst h2
          have hA := Lib.hid (show wrap64 (ow (lg.take (k + 1))) = wrap64 (wrap64 s + x2) from by rw [HTk.out, HXX.out, wrap_in]; rfl)
          go_wp2_with fail
          go_roundw
          case rel => exact ⟨k + 1, by omega, by rw [hA.out], by go_num, HO.out⟩
          case measure => simp [intOf]; omega
        · obtain ⟨g1, g2⟩ := beqz h2
          by_cases h3 : x0 = 3
          · subst h3
            cases x4 with
            | true =>
              have hA := Lib.hid (show wrap64 (ow (lg.take (k + 1))) = wrap64 (wrap64 (wrap64 s + x3) - x2) from by rw [HTk.out, HXX.out, wrap_in2]; rfl)
              clear h2 g1 g2
              go_wp2_with fail
              go_quiet (fail)
              have HO2 := Lib.hid (HO.out.drewN nq)
              clear b0 b1 b2 b3 b4 HO
              generalize World.drewN w2 nq = w4 at *
              go_wp2_with fail
              go_roundw
              case rel => exact ⟨k + 1, by omega, by rw [hA.out], by go_num, HO2.out⟩
              case measure => simp [intOf]; omega
            | false =>
              have hA := Lib.hid (show wrap64 (ow (lg.take (k + 1))) = wrap64 s from by rw [HTk.out, HXX.out, show ownA ⟨3, x1, x2, x3, false⟩ = 0 from rfl, Int.add_zero])
              clear h2 g1 g2
              go_wp2_with fail
              go_roundw
              case rel => exact ⟨k + 1, by omega, by rw [hA.out], by go_num, HO.out⟩
              case measure => simp [intOf]; omega
          · obtain ⟨g3, g4⟩ := beqz h3
            have hA := Lib.hid (show wrap64 (ow (lg.take (k + 1))) = wrap64 s from by
              rw [HTk.out, HXX.out, show ownA ⟨x0, x1, x2, x3, x4⟩ = 0 by unfold ownA; rw [if_neg h2, if_neg (fun h => h3 h.1)], Int.add_zero])
            go_wp2_with fail
            go_roundw
            case rel => exact ⟨k + 1, by omega, by rw [hA.out], by go_num, HO.out⟩
            case measure => simp [intOf]; omega
      · obtain ⟨q1, q2⟩ := beqz q0
        have q7 : (x1 != AV) = true := by simp [q0]
        by_cases q3 : x1 < LE
        · have HXX := Lib.hid (HY.out ⟨x0, x1, x2, x3, x4⟩ q0 (Or.inl q3))
          go_wp2_with fail
          clear b0 b1 b2 b3 b4 d0 d1 d2 d3 d4 d5 d6 d7
          try dsimp only [List.append]
          refine wp_region_quiet_below (by kernel_rfl) (by kernel_rfl) ?_
          repeat (go_big_quiet_step ((first | (go_at_call 30; with_reducible exact CA _ _) | (go_at_call 59; with_reducible exact CL _ _) | (go_at_call 61; with_reducible exact CC _ _))))
          refine wpQuiet_nil ?_
          intro _ hw'
          obtain ⟨⟨dq, osq⟩, hw''⟩ := hw'
          subst hw''
          have hO := HRG.out dq osq
          clear HRG CA CL CC k0 k1 k2 k3 k4 k5 k6 k7 k8 k9 k10 k11 k12
          generalize Go.Sort.grow (redrawn wr dq) osq = w2 at *
          obtain ⟨b0, b1, b2, b3, b4⟩ := HS.out _ hO.toBelow
          have HO := Lib.hid hO
          clear hO
          generalize ow (lg.take k) = s at *
          have hA := Lib.hid (show wrap64 (ow (lg.take (k + 1))) = wrap64 s from by rw [HTk.out, HXX.out, Int.add_zero])
          go_wp2_with fail
          go_roundw
          case rel => exact ⟨k + 1, by omega, by rw [hA.out], by go_num, HO.out⟩
          case measure => simp [intOf]; omega
        · have q4 : LE ≤ x1 := by omega
          have q8 : decide (x1 < LE) = false := by simp; omega
          by_cases q5 : CT ≤ x1
          · have HXX := Lib.hid (HY.out ⟨x0, x1, x2, x3, x4⟩ q0 (Or.inr q5))
            have q9 : decide (CT ≤ x1) = true := by simp; omega
            go_wp2_with fail
            clear b0 b1 b2 b3 b4 d0 d1 d2 d3 d4 d5 d6 d7
            try dsimp only [List.append]
            refine wp_region_quiet_below (by kernel_rfl) (by kernel_rfl) ?_
            repeat (go_big_quiet_step ((first | (go_at_call 30; with_reducible exact CA _ _) | (go_at_call 59; with_reducible exact CL _ _) | (go_at_call 61; with_reducible exact CC _ _))))
            refine wpQuiet_nil ?_
            intro _ hw'
            obtain ⟨⟨dq, osq⟩, hw''⟩ := hw'
            subst hw''
            have hO := HRG.out dq osq
            clear HRG CA CL CC k0 k1 k2 k3 k4 k5 k6 k7 k8 k9 k10 k11 k12
            generalize Go.Sort.grow (redrawn wr dq) osq = w2 at *
            obtain ⟨b0, b1, b2, b3, b4⟩ := HS.out _ hO.toBelow
            have HO := Lib.hid hO
            clear hO
            generalize ow (lg.take k) = s at *
            have hA := Lib.hid (show wrap64 (ow (lg.take (k + 1))) = wrap64 s from by rw [HTk.out, HXX.out, Int.add_zero])
            go_wp2_with fail
            go_roundw
            case rel => exact ⟨k + 1, by omega, by rw [hA.out], by go_num, HO.out⟩
            case measure => simp [intOf]; omega
          · have q6 : x1 < CT := by omega
            have HXX := Lib.hid (HX.out ⟨x0, x1, x2, x3, x4⟩ (Or.inr ⟨q4, q6⟩))
            have q9 : decide (CT ≤ x1) = false := by simp; omega
            go_wp2_with fail
            clear b0 b1 b2 b3 b4 d0 d1 d2 d3 d4 d5 d6 d7
            try dsimp only [List.append]
            refine wp_region_quiet_below (by kernel_rfl) (by kernel_rfl) ?_
            repeat (go_big_quiet_step ((first | (go_at_call 30; with_reducible exact CA _ _) | (go_at_call 59; with_reducible exact CL _ _) | (go_at_call 61; with_reducible exact CC _ _))))
            refine wpQuiet_nil ?_
            intro _ hw'
            obtain ⟨⟨dq, osq⟩, hw''⟩ := hw'
            subst hw''
            have hO := HRG.out dq osq
            clear HRG CA CL CC k0 k1 k2 k3 k4 k5 k6 k7 k8 k9 k10 k11 k12
            generalize Go.Sort.grow (redrawn wr dq) osq = w2 at *
            obtain ⟨b0, b1, b2, b3, b4⟩ := HS.out _ hO.toBelow
            have HO := Lib.hid hO
            clear hO
            generalize ow (lg.take k) = s at *
            by_cases h2 : x0 = 2
            · subst h2
              have hA := Lib.hid (show wrap64 (ow (lg.take (k + 1))) = wrap64 (wrap64 s + x2) from by rw [HTk.out, HXX.out, wrap_in]; rfl)
              go_wp2_with fail
              go_roundw
              case rel => exact ⟨k + 1, by omega, by rw [hA.out], by go_num, HO.out⟩
              case measure => simp [intOf]; omega
            · obtain ⟨g1, g2⟩ := beqz h2
              by_cases h3 : x0 = 3
              · subst h3
                cases x4 with
                | true =>
                  have hA := Lib.hid (show wrap64 (ow (lg.take (k + 1))) = wrap64 (wrap64 (wrap64 s + x3) - x2) from by rw [HTk.out, HXX.out, wrap_in2]; rfl)
                  clear h2 g1 g2
                  go_wp2_with fail
                  go_quiet (fail)
                  have HO2 := Lib.hid (HO.out.drewN nq)
                  clear b0 b1 b2 b3 b4 HO
                  generalize World.drewN w2 nq = w4 at *
                  go_wp2_with fail
                  go_roundw
                  case rel => exact ⟨k + 1, by omega, by rw [hA.out], by go_num, HO2.out⟩
                  case measure => simp [intOf]; omega
                | false =>
                  have hA := Lib.hid (show wrap64 (ow (lg.take (k + 1))) = wrap64 s from by rw [HTk.out, HXX.out, show ownA ⟨3, x1, x2, x3, false⟩ = 0 from rfl, Int.add_zero])
                  clear h2 g1 g2
                  go_wp2_with fail
                  go_roundw
                  case rel => exact ⟨k + 1, by omega, by rw [hA.out], by go_num, HO.out⟩
                  case measure => simp [intOf]; omega
              · obtain ⟨g3, g4⟩ := beqz h3
                have hA := Lib.hid (show wrap64 (ow (lg.take (k + 1))) = wrap64 s from by
                  rw [HTk.out, HXX.out, show ownA ⟨x0, x1, x2, x3, x4⟩ = 0 by unfold ownA; rw [if_neg h2, if_neg (fun h => h3 h.1)], Int.add_zero])
                go_wp2_with fail
                go_roundw
                case rel => exact ⟨k + 1, by omega, by rw [hA.out], by go_num, HO.out⟩
                case measure => simp [intOf]; omega
    · obtain rfl : k = lg.length := by omega
      have HB := Lib.hid hO.toBelow
      clear hO
      go_wp2_with fail
      go_ret
      exact ⟨rfl, HB.out⟩
end Go.Proofs.YtjohngpbggendaaGreat
end
section
/- Machines in the heap, a list of them: one is picked, and put back; a row of bools; turns. -/
namespace Go.Proofs.YtjohngpbggendaaGreat
open Go.ChangeShapes Go.WideShapes Go.ChangeAt Go.RowKit Go.Shelf
set_option linter.unusedVariables false
set_option maxRecDepth 100000
variable {w0 w w' : World} {F0 : Nat → Prop} {L : List Asn} {T : TypeId} {m : Nat} {ws : List Int} {lg : List Acc}
def crewL (D : Nat) (f : Nat → Asn) : List Asn := (List.range D).map f
theorem crew_get (D k : Nat) (f : Nat → Asn) (hk : k < D) : (crewL D f)[k]'(by simp [crewL, hk]) = f k := by simp [crewL]
theorem crew_erase (D k : Nat) (f g : Nat → Asn) (h : ∀ j, j ≠ k → g j = f j) : (crewL D g).eraseIdx k = (crewL D f).eraseIdx k := by
  apply List.ext_getElem?
  intro i
  rw [List.getElem?_eraseIdx, List.getElem?_eraseIdx]
  split
  · simp only [crewL, List.getElem?_map]
    by_cases hi : i < D
    · rw [List.getElem?_range hi]; simp only [Option.map_some]; rw [h i (by omega)]
    · rw [List.getElem?_eq_none (by simp; omega)]; rfl
  · simp only [crewL, List.getElem?_map]
    by_cases hi : i + 1 < D
    · rw [List.getElem?_range hi]; simp only [Option.map_some]; rw [h (i + 1) (by omega)]
    · rw [List.getElem?_eq_none (by simp; omega)]; rfl
theorem crew_pick {D k : Nat} {f : Nat → Asn} (hk : k < D) (h : Own w0 F0 (stars (crewL D f) :: L) w) : Own w0 F0 (f k :: stars ((crewL D f).eraseIdx k) :: L) w := by
  have h1 := h.open_
  have hp : (crewL D f ++ L).Perm (f k :: ((crewL D f).eraseIdx k ++ L)) := by
    have := (pick_perm (crewL D f) k (by simp [crewL, hk])).append_right L
    rwa [crew_get D k f hk] at this
  exact (h1.perm hp).under fun _ _ h => h.shut
theorem crew_back {D k : Nat} {f g : Nat → Asn} (hk : k < D) (hg : ∀ j, j ≠ k → g j = f j) (h : Own w0 F0 (g k :: stars ((crewL D f).eraseIdx k) :: L) w) : Own w0 F0 (stars (crewL D g) :: L) w := by
  have h1 := h.under fun _ _ h => h.open_
  rw [← crew_erase D k f g hg] at h1
  have hp : (crewL D g ++ L).Perm (g k :: ((crewL D g).eraseIdx k ++ L)) := by
    have := (pick_perm (crewL D g) k (by simp [crewL, hk])).append_right L
    rwa [crew_get D k g hk] at this
  exact (h1.perm hp.symm).shut
theorem crew_more {D : Nat} {f : Nat → Asn} (h : Own w0 F0 (f D :: stars (crewL D f) :: L) w) : Own w0 F0 (stars (crewL (D + 1) f) :: L) w := by
  have h1 := h.under fun _ _ h => h.open_
  have hp : (f D :: (crewL D f ++ L)).Perm (crewL (D + 1) f ++ L) := by
    have e : crewL (D + 1) f = crewL D f ++ [f D] := by simp [crewL, List.range_succ]
    rw [e, List.append_assoc]
    exact (List.perm_middle).symm
  exact (h1.perm hp).shut
theorem crew_congr {D : Nat} {f g : Nat → Asn} (h : ∀ j, j < D → f j = g j) : crewL D f = crewL D g := by
  unfold crewL
  exact List.map_congr_left fun j hj => h j (List.mem_range.1 hj)
theorem Tryz.info_bool8 : (Tryz.prog.info? 4).map (fun i => (i.zero, i.size, i.bytes)) = some (some (.bool false), 1, 1) := by kernel_rfl
theorem make_bools (D : Nat) (h : D ≤ 6) (w : World) : (Instr.makeSlice 27 (.int .i64 D) (.int .i64 D)).run Tryz.prog w = .ok (.slice (some ⟨w.heap.size, 0, none⟩) D D) (w.alloc (.cells ((List.range D).map fun j => Value.bool false).toArray 4)) := by
  obtain ⟨i0, hi0, hz0, hz1, hz2⟩ := info_parts Tryz.info_bool8
  have := run_make (P := Tryz.prog) w 27 4 i0 _ Tryz.underlying27 hi0 hz0 .i64 .i64 D D (by omega) (by omega) (by rw [hz2]; omega) (by omega)
  rw [this, hz1]
  have e : madeCells (Value.bool false).cells ((D : Int).toNat * 1) = ((List.range D).map fun j => Value.bool false).toArray := by
    rw [Int.toNat_natCast, Nat.mul_one]
    apply Array.ext_getElem?
    intro i
    by_cases hi : i < D
    · simp [madeCells, Value.cells, hi, Nat.mod_one]
    · simp [madeCells, Value.cells, hi, Nat.mod_one]
  rw [e, Int.toNat_natCast]
def ovO (D : Nat) (ov : Nat → Bool) : Obj := .cells ((List.range D).map fun j => Value.bool (ov j)).toArray 4 (0, 0)
theorem ov_at {bo D : Nat} {ov : Nat → Bool} (h : Own w0 F0 (blk bo (ovO D ov) :: L) w) (k : Nat) (hk : k < D) : w.cell? ⟨bo, k, none⟩ = some (.bool (ov k)) := h.cell (by simp [hk])
theorem ov_set {bo D : Nat} {ov : Nat → Bool} (h : Own w0 F0 (blk bo (ovO D ov) :: L) w) (k : Nat) (hk : k < D) (x : Bool) : Own w0 F0 (blk bo (ovO D (fun j => if j = k then x else ov j)) :: L) (w.setCell ⟨bo, k, none⟩ (.bool x)) := by
  have h1 := Own.set h k (.bool x)
  have e : ((List.range D).map fun j => Value.bool (ov j)).toArray.setIfInBounds k (.bool x) = ((List.range D).map fun j => Value.bool (if j = k then x else ov j)).toArray := by
    apply Array.ext_getElem?
    intro i
    simp only [List.setIfInBounds_toArray, List.getElem?_toArray, List.getElem?_set, List.getElem?_map, List.length_map, List.length_range]
    by_cases hi : i < D
    · rw [List.getElem?_range hi]
      by_cases hik : k = i
      · subst hik; simp [hk]
      · rw [if_neg hik]; simp [show ¬ i = k from fun e => hik e.symm]
    · rw [List.getElem?_eq_none (by simp; omega), if_neg (by omega)]; rfl
  rw [e] at h1
  exact h1
def ptC (n : Nat) (ga : Nat → Nat) : List Value := (List.range n).map fun j => Value.pointer (some ⟨ga j, 0, none⟩)
theorem ptC_succ (n : Nat) (ga : Nat → Nat) : ptC n ga ++ [.pointer (some ⟨ga n, 0, none⟩)] = ptC (n + 1) ga := by simp [ptC, List.range_succ]
theorem ptC_get (n k : Nat) (ga : Nat → Nat) (hk : k < n) : (ptC n ga)[k]? = some (.pointer (some ⟨ga k, 0, none⟩)) := by simp [ptC, hk]
theorem Own.q2 {A B C : Asn} (h : Own w0 F0 (A :: B :: C :: L) w) : Own w0 F0 (C :: A :: B :: L) w := (h.under fun _ _ h => h.swap).swap
theorem Own.q2r {A B C : Asn} (h : Own w0 F0 (C :: A :: B :: L) w) : Own w0 F0 (A :: B :: C :: L) w := h.swap.under fun _ _ h => h.swap
theorem Own.q3r {A B C D : Asn} (h : Own w0 F0 (D :: A :: B :: C :: L) w) : Own w0 F0 (A :: B :: C :: D :: L) w := h.q2r.under fun _ _ h => h.under fun _ _ h => h.swap
def turns (D k i : Nat) : Nat := (i + D - 1 - k) / D
theorem turns_succ (D k i : Nat) (h1 : 1 ≤ D) (h6 : D ≤ 6) (hk : k < D) : turns D k (i + 1) = turns D k i + if i % D = k then 1 else 0 := by
  unfold turns
  have : D = 1 ∨ D = 2 ∨ D = 3 ∨ D = 4 ∨ D = 5 ∨ D = 6 := by omega
  rcases this with rfl | rfl | rfl | rfl | rfl | rfl <;> split <;> omega
theorem turns_le {D k i j : Nat} (h : i ≤ j) : turns D k i ≤ turns D k j := Nat.div_le_div_right (by omega)
theorem ptr_in {e : TypeId} {gp n cap k : Nat} {ga : Nat → Nat} (h : Own w0 F0 (row (.slice (some ⟨gp, 0, none⟩) n cap) e 1 n (ptC n ga) :: L) w) (hk : k < n) : w.cell? ⟨gp, k, none⟩ = some (.pointer (some ⟨ga k, 0, none⟩)) := by
  have := (h.isRow).cells (g := gp) rfl k _ (ptC_get n k ga hk)
  rwa [add_plain, Nat.zero_add] at this
theorem em_k (u : Int) (D : Nat) (h0 : 0 ≤ u) (h1 : 1 ≤ D) : ∃ kk : Nat, u.tmod (D : Int) = (kk : Int) ∧ u % (D : Int) = (kk : Int) ∧ kk < D := by
  refine ⟨(u % (D : Int)).toNat, ?_, ?_, ?_⟩
  · rw [Int.tmod_eq_emod_of_nonneg h0, Int.toNat_of_nonneg (Int.emod_nonneg _ (by omega))]
  · rw [Int.toNat_of_nonneg (Int.emod_nonneg _ (by omega))]
  · have := Int.emod_lt_of_pos u (show (0 : Int) < (D : Int) by omega)
    have := Int.emod_nonneg u (show ((D : Int)) ≠ 0 by omega)
    omega
theorem getD_bd {l : List Int} (a b : Int) (a0 : a ≤ 0) (b0 : 0 ≤ b) (h : ∀ n ∈ l, a ≤ n ∧ n ≤ b) (j : Nat) : a ≤ l.getD j 0 ∧ l.getD j 0 ≤ b := by
  by_cases hj : j < l.length
  · have e : l.getD j 0 = l[j] := by simp [List.getD, hj]
    rw [e]; exact h _ (List.getElem_mem hj)
  · have e : l.getD j 0 = 0 := by simp [List.getD, List.getElem?_eq_none (show l.length ≤ j by omega)]
    rw [e]; exact ⟨a0, b0⟩
end Go.Proofs.YtjohngpbggendaaGreat
end
