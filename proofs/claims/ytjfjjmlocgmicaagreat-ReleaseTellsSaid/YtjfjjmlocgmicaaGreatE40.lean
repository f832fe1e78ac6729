/- Texts of elder layers, one behind the other: AskPokes, Crew. -/
import Derived.Test.YtjfjjmlocgmicaaGreatE39
import Derived.Deep.RegionLaw
import Derived.Laws.MakeOwn
section
namespace Go.Proofs.YtjfjjmlocgmicaaGreat
open Go.ChangeShapes Go.WideShapes Go.ChangeAt Go.RowKit Go.Shelf
set_option linter.unusedVariables false
set_option linter.unusedSimpArgs false
set_option maxRecDepth 100000
variable {w0 w w' W : World} {F0 : Nat → Prop} {L : List Asn}
set_option maxHeartbeats 8000000 in
theorem aPokes_any {x : Ak} {vp vl vb va vk : Value} (H : AkAt W x vp vl vb va vk) (hg : GoodA x) (h : Own W NoF L w) :
    Calls Tryz.prog 17 #[akV x vp vl vb va vk] w (RetRow W NoF L 83 3 (poA x).length (pkC (poA x))) := by
  have hr := hg.rt
  obtain ⟨pp, cp, rfl⟩ := H.p.slice
  obtain ⟨pl, cl, rfl⟩ := H.l.slice
  obtain ⟨pk, ck, rfl⟩ := RowAt.slice H.k
  have n0 := hr.n0
  have n1 := hr.n1
  have hle := hr.le
  have hga := hr.ga
  unfold Bd at hle hga
  have hst := hr.sm
  have h1 := h.new (akO x (.slice pp x.c.ps.length cp) (.slice pl x.c.ls.length cl) vb va (.slice pk x.l.length ck))
  have HA := fun v v0 v1 w => Lib.hid (rAvail_q (pp := pp) (np := x.c.ps.length) (cp := cp) (pl := pl) (nl := x.c.ls.length) (cl := cl) x.c hst v v0 v1 w)
  have HL := fun v v0 v1 k k0 k1 w => Lib.hid (rLease_q (pp := pp) (np := x.c.ps.length) (cp := cp) (pl := pl) (nl := x.c.ls.length) (cl := cl) x.c hst v v0 v1 k k0 k1 w)
  have HC := fun v v0 v1 w => Lib.hid (rCounter_q (pp := pp) (np := x.c.ps.length) (cp := cp) (pl := pl) (nl := x.c.ls.length) (cl := cl) x.c hst v v0 v1 w)
  have HLB := Lib.hid (fun (v : Int) (v0 : 0 ≤ v) (v1 : v ≤ 13) => lim_bd hst v0 v1)
  have HK := Lib.hid H.k
  have HI := Lib.hid H.wf.l
  have hl40 := hg.l
  have Hpk := Lib.hid (fun y0 y1 y2 r n hr hn => pokeA_of (c := x.c) (y0 := y0) (y1 := y1) (y2 := y2) (r := r) (n := n) hr hn)
  have Hp0 := Lib.hid (fun a n v hv => pkzA_0 (c := x.c) (a := a) (n := n) (v := v) hv)
  have Hp1 := Lib.hid (fun a n v s z hv hs hz => pkzA_1 (c := x.c) (a := a) (n := n) (v := v) (s := s) (z := z) hv hs hz)
  have Hp2 := Lib.hid (fun a n v s e g hv hs he hg => pkzA_2 (c := x.c) (a := a) (n := n) (v := v) (s := s) (e := e) (g := g) hv hs he hg)
  have Htk := Lib.hid (poA_take x)
  have Hpl := Lib.hid (poA_len x)
  have Hall := Lib.hid (show poA x = (poA x).take x.l.length by rw [← poA_len, List.take_length])
  rw [Hpl.out, Hall.out]
  generalize poA x = P at *
  generalize pokeA x.c = fP at *
  have H1 := Lib.hid h1
  obtain ⟨st0, st1⟩ := hst
  obtain ⟨i0, hi0, hz0, hz1, hz2⟩ := info_parts Tryz.info_pk
  unfold akV
  clear h h1 hr H hg
  go_enter Tryz.func17, Tryz.ntmps17
  obtain ⟨B, hBd⟩ : ∃ B, B = w.heap.size := ⟨_, rfl⟩
  have H2 := Lib.hid (show Own W NoF (row (.slice none 0 0) 83 3 0 [] :: blk B (akO x (.slice pp x.c.ps.length cp) (.slice pl x.c.ls.length cl) vb va (.slice pk x.l.length ck)) :: L) (w.alloc (akO x (.slice pp x.c.ps.length cp) (.slice pl x.c.ls.length cl) vb va (.slice pk x.l.length ck))) from by rw [hBd]; exact H1.out.rowNil)
  obtain ⟨d0, d1, d2, d3, d4, d5, d6, d7, d8, d9, d10, d11, d12, d13⟩ := akCells H2.out.swap
  clear H1
  go_wp2_with fail
  rw [← hBd]
  clear hBd d0 d1 d2 d3 d4 d5 d6 d7 d8 d9 d10 d11 d12 d13
  go_loopw [3, 4, 5, 6, 7, 8, 9, 10] (fun v3 v4 v5 v6 v7 v8 v9 v10 wr => ∃ k : Nat, k ≤ x.l.length ∧ v4 = .int .i64 k ∧ Own W NoF (row v3 83 3 k (pkC (P.take k)) :: blk B (akO x (.slice pp x.c.ps.length cp) (.slice pl x.c.ls.length cl) vb va (.slice pk x.l.length ck)) :: L) wr) (fun v3 v4 v5 v6 v7 v8 v9 v10 _ => x.l.length - (intOf v4).toNat)
  case atStart => exact ⟨0, Nat.zero_le _, rfl, by simpa [pkC, akO] using H2.out⟩
  case round =>
    obtain ⟨k, hk, rfl, hO⟩ := hrel
    clear H2
    obtain ⟨po, co, rfl⟩ := row_slice hO
    obtain ⟨d0, d1, d2, d3, d4, d5, d6, d7, d8, d9, d10, d11, d12, d13⟩ := akCells hO.swap
    by_cases hlt : k < x.l.length
    · obtain ⟨b3, o3, e3, hb3, hc3⟩ := (RowAt.below HK.out hO.toBelow).at (by rw [pkC_len]; omega) (by omega)
      have Hnx := Lib.hid (Htk.out k hlt)
      have hIq := HI.out (x.l.getD k default) (by simp [List.getD, hlt])
      obtain ⟨q, hq⟩ : ∃ q, q = x.l.getD k default := ⟨_, rfl⟩
      have e := fun i hi => pkC_get x.l k i hlt hi
      rw [← hq] at e Hnx hIq
      obtain ⟨y0, y1, y2⟩ := q
      simp only at hIq
      obtain ⟨I0, I1, I2⟩ := hIq
      unfold I64 at I0 I1 I2
      have x0 : wr.cell? ⟨b3, o3 + k * 3, none⟩ = some (.int .i64 y0) := hc3 (k * 3 + 0) _ (e 0 (by omega))
      have x1 : wr.cell? ⟨b3, o3 + k * 3 + 1, none⟩ = some (.int .i64 y1) := hc3 (k * 3 + 1) _ (e 1 (by omega))
      have x2 : wr.cell? ⟨b3, o3 + k * 3 + 2, none⟩ = some (.int .i64 y2) := hc3 (k * 3 + 2) _ (e 2 (by omega))
      clear hc3 e hq HK HI Htk
      subst e3
      have h3 := hO.new (.cells #[.int .i64 y0, .int .i64 y1, .int .i64 y2] 83)
      have H3 := Lib.hid h3
      obtain ⟨e0, e1, e2⟩ := pkCells3 h3
      have h5 := h3.p2
      have hkl : (k : Int) < (x.l.length : Int) := by omega
      have l1 : k + 1 ≤ maxLen := by unfold maxLen; omega
      have l2 : (k + 1) * 24 ≤ 140737488355328 := by omega
      have hza : ¬ (x.c.ps.length : Int) = 0 := by omega
      have hzb : ¬ x.c.st = 0 := by omega
      have hzd : ¬ x.c.ga = 0 := by omega
      have hw2 : IntKind.i64.wrap (x.c.le + 1) = x.c.le + 1 := IntWalk.i64_in _ (by omega)
      have hw4 : ¬ x.c.le + 1 = 0 := by omega
      clear hO
      obtain ⟨d0, d1, d2, d3, d4, d5, d6, d7, d8, d9, d10, d11, d12, d13⟩ := akCells h5
      clear h3 h5
      by_cases hy2 : y2 < 0
      · have hnn : (if y2 < 0 then 0 else y2) % 4294967296 = 0 := by rw [if_pos hy2]; rfl
        by_cases hy1 : y1 < 0
        · have Hfq := (Hpk.out y0 y1 y2 0 0 (by rw [if_pos hy1]; rfl) hnn).trans (Hp0.out y0 0 0 (by simp))
          obtain ⟨LB, hLB⟩ : ∃ LB, LB = lim x.c 0 := ⟨_, rfl⟩
          have hlb := HLB.out 0 (by omega) (by omega)
          have Hc := fun w => Lib.hid (show Calls Tryz.prog 56 #[cfV x.c (.slice pp x.c.ps.length cp) (.slice pl x.c.ls.length cl), .int .i64 0] w fun e w' => e = .returned (.int .i64 (LB + 1)) ∧ Below w.heap.size w w' from by rw [hLB]; exact (HA 0 (by omega) (by omega) w).out)
          rw [← hLB] at Hfq hlb
          have Hnews := fun w' : World => Lib.hid (news_at w' [.int .i64 y0, .int .i64 (LB + 1), .int .i64 (0)] 83 _ rfl)
          clear hLB HA HL HC HLB Hpk Hp0 Hp1 Hp2 Hpl Hall
          clear hnn
          go_wp2_with fail
          generalize wr.heap.size = PB at *
          generalize World.alloc wr _ = w5 at *
          have hO := H3.out.swap.drew
          clear H3
          go_region_law (first | (refine step_append_row rfl (.tmp 44) (.tmp 53) 29 rfl 83 i0 _ Tryz.underlying29 hi0 hz0 hz1 hz2 rfl (by decide) (by simp [Act.eval]) (Own.alloc hM _) ⟨w6.heap.size, 0, none⟩ 1 1 [.int .i64 y0, .int .i64 (LB + 1), .int .i64 (0)] (by simp [Act.eval]) rfl (Hnews _).out (by simp [Value.oneCell']) l1 l2 ?_; intro v' w3 hR hg hn2; obtain ⟨p', cp', rfl⟩ := row_slice hR; clear hg hn2) | (go_simp; go_at_call 56; with_reducible refine Calls.mono (Hid.out (Hc _)) ?_; rintro e w6 ⟨rfl, hB⟩; have hM := Own.below hO hB; obtain ⟨d0, d1, d2, d3, d4, d5, d6, d7, d8, d9, d10, d11, d12, d13⟩ := akCells hM.p2; obtain ⟨e0, e1, e2⟩ := pkCells3 hM.swap))
          all_goals
            have hR2 : Own W NoF (row (.slice p' (k + 1) cp') 83 3 (k + 1) (pkC (P.take (k + 1))) :: blk B (akO x (.slice pp x.c.ps.length cp) (.slice pl x.c.ls.length cl) vb va (.slice (some ⟨b3, o3, none⟩) x.l.length ck)) :: L) w3 := by
              rw [Hnx.out, Hfq]
              have hc : ∀ (l : List Pk) (a b c : Int), pkC (l ++ [⟨a, b, c⟩]) = pkC l ++ [.int .i64 a, .int .i64 b, .int .i64 c] := fun l a b c => by simp [pkC, Pk.cells]
              rw [hc]
              exact hR.under fun _ _ h => h.drop
            have HR := Lib.hid hR2
            clear hR hR2 hM hO Hfq
            go_wp2_with fail
            go_roundw
            case rel => exact ⟨k + 1, by omega, by go_num, HR.out⟩
            case measure => simp [intOf]; omega
        · have hr3 : y1 % 3 = 0 ∨ y1 % 3 = 1 ∨ y1 % 3 = 2 := by omega
          have ht3 : y1.tmod 3 = y1 % 3 := Int.tmod_eq_emod_of_nonneg (by omega)
          rcases hr3 with hr3 | hr3 | hr3
          · have Hfq := (Hpk.out y0 y1 y2 0 0 (by rw [if_neg hy1]; exact hr3) hnn).trans (Hp0.out y0 0 0 (by simp))
            rw [hr3] at ht3
            clear hr3
            obtain ⟨LB, hLB⟩ : ∃ LB, LB = lim x.c 0 := ⟨_, rfl⟩
            have hlb := HLB.out 0 (by omega) (by omega)
            have Hc := fun w => Lib.hid (show Calls Tryz.prog 56 #[cfV x.c (.slice pp x.c.ps.length cp) (.slice pl x.c.ls.length cl), .int .i64 0] w fun e w' => e = .returned (.int .i64 (LB + 1)) ∧ Below w.heap.size w w' from by rw [hLB]; exact (HA 0 (by omega) (by omega) w).out)
            rw [← hLB] at Hfq hlb
            have Hnews := fun w' : World => Lib.hid (news_at w' [.int .i64 y0, .int .i64 (LB + 1), .int .i64 (0)] 83 _ rfl)
            clear hLB HA HL HC HLB Hpk Hp0 Hp1 Hp2 Hpl Hall
            clear hnn
            go_wp2_with fail
            generalize wr.heap.size = PB at *
            generalize World.alloc wr _ = w5 at *
            have hO := H3.out.swap.drew
            clear H3
            go_region_law (first | (refine step_append_row rfl (.tmp 44) (.tmp 53) 29 rfl 83 i0 _ Tryz.underlying29 hi0 hz0 hz1 hz2 rfl (by decide) (by simp [Act.eval]) (Own.alloc hM _) ⟨w6.heap.size, 0, none⟩ 1 1 [.int .i64 y0, .int .i64 (LB + 1), .int .i64 (0)] (by simp [Act.eval]) rfl (Hnews _).out (by simp [Value.oneCell']) l1 l2 ?_; intro v' w3 hR hg hn2; obtain ⟨p', cp', rfl⟩ := row_slice hR; clear hg hn2) | (go_simp; go_at_call 56; with_reducible refine Calls.mono (Hid.out (Hc _)) ?_; rintro e w6 ⟨rfl, hB⟩; have hM := Own.below hO hB; obtain ⟨d0, d1, d2, d3, d4, d5, d6, d7, d8, d9, d10, d11, d12, d13⟩ := akCells hM.p2; obtain ⟨e0, e1, e2⟩ := pkCells3 hM.swap))
            all_goals
              have hR2 : Own W NoF (row (.slice p' (k + 1) cp') 83 3 (k + 1) (pkC (P.take (k + 1))) :: blk B (akO x (.slice pp x.c.ps.length cp) (.slice pl x.c.ls.length cl) vb va (.slice (some ⟨b3, o3, none⟩) x.l.length ck)) :: L) w3 := by
                rw [Hnx.out, Hfq]
                have hc : ∀ (l : List Pk) (a b c : Int), pkC (l ++ [⟨a, b, c⟩]) = pkC l ++ [.int .i64 a, .int .i64 b, .int .i64 c] := fun l a b c => by simp [pkC, Pk.cells]
                rw [hc]
                exact hR.under fun _ _ h => h.drop
              have HR := Lib.hid hR2
              clear hR hR2 hM hO Hfq
              go_wp2_with fail
              go_roundw
              case rel => exact ⟨k + 1, by omega, by go_num, HR.out⟩
              case measure => simp [intOf]; omega
          · have Hfq := (Hpk.out y0 y1 y2 1 0 (by rw [if_neg hy1]; exact hr3) hnn).trans (Hp1.out y0 0 0 0 0 (by simp) (by simp) (by simp))
            rw [hr3] at ht3
            clear hr3
            obtain ⟨LB, hLB⟩ : ∃ LB, LB = lim x.c 0 := ⟨_, rfl⟩
            have hlb := HLB.out 0 (by omega) (by omega)
            have Hc := fun w => Lib.hid (show Calls Tryz.prog 57 #[cfV x.c (.slice pp x.c.ps.length cp) (.slice pl x.c.ls.length cl), .int .i64 0, .int .i64 0] w fun e w' => e = .returned (.int .i64 (LB + 2)) ∧ Below w.heap.size w w' from by rw [hLB]; have h := (HL 0 (by omega) (by omega) 0 (by omega) (by omega) w).out; (try rw [Int.add_zero] at h); exact h)
            rw [Int.add_zero] at Hfq
            rw [← hLB] at Hfq hlb
            have Hnews := fun w' : World => Lib.hid (news_at w' [.int .i64 y0, .int .i64 (LB + 2), .int .i64 (0)] 83 _ rfl)
            clear hLB HA HL HC HLB Hpk Hp0 Hp1 Hp2 Hpl Hall
            clear hnn
            go_wp2_with fail
            generalize wr.heap.size = PB at *
            generalize World.alloc wr _ = w5 at *
            have hO := H3.out.swap.drew
            clear H3
            go_region_law (first | (refine step_append_row rfl (.tmp 57) (.tmp 72) 29 rfl 83 i0 _ Tryz.underlying29 hi0 hz0 hz1 hz2 rfl (by decide) (by simp [Act.eval]) (Own.alloc hM _) ⟨w6.heap.size, 0, none⟩ 1 1 [.int .i64 y0, .int .i64 (LB + 2), .int .i64 (0)] (by simp [Act.eval]) rfl (Hnews _).out (by simp [Value.oneCell']) l1 l2 ?_; intro v' w3 hR hg hn2; obtain ⟨p', cp', rfl⟩ := row_slice hR; clear hg hn2) | (go_simp; go_at_call 57; with_reducible refine Calls.mono (Hid.out (Hc _)) ?_; rintro e w6 ⟨rfl, hB⟩; have hM := Own.below hO hB; obtain ⟨d0, d1, d2, d3, d4, d5, d6, d7, d8, d9, d10, d11, d12, d13⟩ := akCells hM.p2; obtain ⟨e0, e1, e2⟩ := pkCells3 hM.swap))
            all_goals
              have hR2 : Own W NoF (row (.slice p' (k + 1) cp') 83 3 (k + 1) (pkC (P.take (k + 1))) :: blk B (akO x (.slice pp x.c.ps.length cp) (.slice pl x.c.ls.length cl) vb va (.slice (some ⟨b3, o3, none⟩) x.l.length ck)) :: L) w3 := by
                rw [Hnx.out, Hfq]
                have hc : ∀ (l : List Pk) (a b c : Int), pkC (l ++ [⟨a, b, c⟩]) = pkC l ++ [.int .i64 a, .int .i64 b, .int .i64 c] := fun l a b c => by simp [pkC, Pk.cells]
                rw [hc]
                exact hR.under fun _ _ h => h.drop
              have HR := Lib.hid hR2
              clear hR hR2 hM hO Hfq
              go_wp2_with fail
              go_roundw
              case rel => exact ⟨k + 1, by omega, by go_num, HR.out⟩
              case measure => simp [intOf]; omega
          · have Hfq := (Hpk.out y0 y1 y2 2 0 (by rw [if_neg hy1]; exact hr3) hnn).trans (Hp2.out y0 0 0 0 0 0 (by simp) (by simp) (by simp) (by simp))
            rw [hr3] at ht3
            clear hr3
            obtain ⟨LB, hLB⟩ : ∃ LB, LB = lim x.c 0 := ⟨_, rfl⟩
            have hlb := HLB.out 0 (by omega) (by omega)
            have Hc := fun w => Lib.hid (show Calls Tryz.prog 59 #[cfV x.c (.slice pp x.c.ps.length cp) (.slice pl x.c.ls.length cl), .int .i64 0] w fun e w' => e = .returned (.int .i64 (LB + 2 + x.c.st)) ∧ Below w.heap.size w w' from by rw [hLB]; have h := (HC 0 (by omega) (by omega) w).out; (try rw [Int.add_zero] at h); exact h)
            rw [Int.add_zero] at Hfq
            rw [← hLB] at Hfq hlb
            have hwA : IntKind.i64.wrap (LB + 2 + x.c.st + 4) = LB + 2 + x.c.st + 4 := IntWalk.i64_in _ (by omega)
            have HWd := fun w => Lib.hid (rWord_yes 0 0 (by omega) (by omega) (by omega) (by omega) w)
            have Hnews := fun w' : World => Lib.hid (news_at w' [.int .i64 y0, .int .i64 (LB + 2 + x.c.st + 4), .int .i64 (sg (pmk 0 0))] 83 _ rfl)
            clear hLB HA HL HC HLB Hpk Hp0 Hp1 Hp2 Hpl Hall
            clear hnn
            go_wp2_with fail
            refine (HWd _).out.mono ?_
            rintro e w9 ⟨rfl, rfl⟩
            go_wp2_with fail
            generalize wr.heap.size = PB at *
            generalize World.alloc wr _ = w5 at *
            have hO := H3.out.swap.drew
            clear H3
            go_region_law (first | (refine step_append_row rfl (.tmp 87) (.tmp 99) 29 rfl 83 i0 _ Tryz.underlying29 hi0 hz0 hz1 hz2 rfl (by decide) (by simp [Act.eval]) (Own.alloc hM _) ⟨w6.heap.size, 0, none⟩ 1 1 [.int .i64 y0, .int .i64 (LB + 2 + x.c.st + 4), .int .i64 (sg (pmk 0 0))] (by simp [Act.eval]) rfl (Hnews _).out (by simp [Value.oneCell']) l1 l2 ?_; intro v' w3 hR hg hn2; obtain ⟨p', cp', rfl⟩ := row_slice hR; clear hg hn2) | (go_simp; go_at_call 59; with_reducible refine Calls.mono (Hid.out (Hc _)) ?_; rintro e w6 ⟨rfl, hB⟩; have hM := Own.below hO hB; obtain ⟨d0, d1, d2, d3, d4, d5, d6, d7, d8, d9, d10, d11, d12, d13⟩ := akCells hM.p2; obtain ⟨e0, e1, e2⟩ := pkCells3 hM.swap))
            all_goals
              have hR2 : Own W NoF (row (.slice p' (k + 1) cp') 83 3 (k + 1) (pkC (P.take (k + 1))) :: blk B (akO x (.slice pp x.c.ps.length cp) (.slice pl x.c.ls.length cl) vb va (.slice (some ⟨b3, o3, none⟩) x.l.length ck)) :: L) w3 := by
                rw [Hnx.out, Hfq]
                have hc : ∀ (l : List Pk) (a b c : Int), pkC (l ++ [⟨a, b, c⟩]) = pkC l ++ [.int .i64 a, .int .i64 b, .int .i64 c] := fun l a b c => by simp [pkC, Pk.cells]
                rw [hc]
                exact hR.under fun _ _ h => h.drop
              have HR := Lib.hid hR2
              clear hR hR2 hM hO Hfq
              go_wp2_with fail
              go_roundw
              case rel => exact ⟨k + 1, by omega, by go_num, HR.out⟩
              case measure => simp [intOf]; omega
      · have hnn0 : (if y2 < 0 then 0 else y2) % 4294967296 = y2 % 4294967296 := by rw [if_neg hy2]
        obtain ⟨n, hn⟩ : ∃ n, y2 % 4294967296 = n := ⟨_, rfl⟩
        have nb : 0 ≤ n ∧ n < 4294967296 := by omega
        have m0 : y2.tmod 4294967296 = n := by rw [← hn]; exact Int.tmod_eq_emod_of_nonneg (by omega)
        have hnn := hnn0.trans hn
        clear hnn0 hn
        obtain ⟨v, hv⟩ : ∃ v, n % (x.c.ps.length : Int) = v := ⟨_, rfl⟩
        have vb2 : 0 ≤ v ∧ v < (x.c.ps.length : Int) := by rw [← hv]; exact ⟨Int.emod_nonneg _ hza, Int.emod_lt_of_pos _ (by omega)⟩
        have m1 : n.tmod (x.c.ps.length : Int) = v := by rw [← hv]; exact Int.tmod_eq_emod_of_nonneg nb.1
        obtain ⟨s, hs⟩ : ∃ s, n % x.c.st = s := ⟨_, rfl⟩
        have sb2 : 0 ≤ s ∧ s < x.c.st := by rw [← hs]; exact ⟨Int.emod_nonneg _ hzb, Int.emod_lt_of_pos _ (by omega)⟩
        have m2 : n.tmod x.c.st = s := by rw [← hs]; exact Int.tmod_eq_emod_of_nonneg nb.1
        obtain ⟨z, hz⟩ : ∃ z, n % (x.c.le + 1) = z := ⟨_, rfl⟩
        have zb2 : 0 ≤ z ∧ z < x.c.le + 1 := by rw [← hz]; exact ⟨Int.emod_nonneg _ hw4, Int.emod_lt_of_pos _ (by omega)⟩
        have m3 : n.tmod (x.c.le + 1) = z := by rw [← hz]; exact Int.tmod_eq_emod_of_nonneg nb.1
        obtain ⟨ev, he⟩ : ∃ e, n % 1000 = e := ⟨_, rfl⟩
        have eb2 : 0 ≤ ev ∧ ev < 1000 := by omega
        have m4 : n.tmod 1000 = ev := by rw [← he]; exact Int.tmod_eq_emod_of_nonneg nb.1
        obtain ⟨gv, hgv⟩ : ∃ g, n % x.c.ga = g := ⟨_, rfl⟩
        have gb2 : 0 ≤ gv ∧ gv < x.c.ga := by rw [← hgv]; exact ⟨Int.emod_nonneg _ hzd, Int.emod_lt_of_pos _ (by omega)⟩
        have m5 : n.tmod x.c.ga = gv := by rw [← hgv]; exact Int.tmod_eq_emod_of_nonneg nb.1
        have Hhv := Lib.hid hv
        have Hhs := Lib.hid hs
        have Hhz := Lib.hid hz
        have Hhe := Lib.hid he
        have Hhg := Lib.hid hgv
        have Hhn := Lib.hid hnn
        clear hv hs hz he hgv hnn
        by_cases hy1 : y1 < 0
        · have Hfq := (Hpk.out y0 y1 y2 0 n (by rw [if_pos hy1]; rfl) Hhn.out).trans (Hp0.out y0 n v Hhv.out)
          obtain ⟨LB, hLB⟩ : ∃ LB, LB = lim x.c v := ⟨_, rfl⟩
          have hlb := HLB.out v (by omega) (by omega)
          have Hc := fun w => Lib.hid (show Calls Tryz.prog 56 #[cfV x.c (.slice pp x.c.ps.length cp) (.slice pl x.c.ls.length cl), .int .i64 v] w fun e w' => e = .returned (.int .i64 (LB + 1)) ∧ Below w.heap.size w w' from by rw [hLB]; exact (HA v (by omega) (by omega) w).out)
          rw [← hLB] at Hfq hlb
          have Hnews := fun w' : World => Lib.hid (news_at w' [.int .i64 y0, .int .i64 (LB + 1), .int .i64 (n)] 83 _ rfl)
          clear hLB HA HL HC HLB Hpk Hp0 Hp1 Hp2 Hpl Hall
          go_wp2_with fail
          generalize wr.heap.size = PB at *
          generalize World.alloc wr _ = w5 at *
          have hO := H3.out.swap.drew
          clear H3
          go_region_law (first | (refine step_append_row rfl (.tmp 44) (.tmp 53) 29 rfl 83 i0 _ Tryz.underlying29 hi0 hz0 hz1 hz2 rfl (by decide) (by simp [Act.eval]) (Own.alloc hM _) ⟨w6.heap.size, 0, none⟩ 1 1 [.int .i64 y0, .int .i64 (LB + 1), .int .i64 (n)] (by simp [Act.eval]) rfl (Hnews _).out (by simp [Value.oneCell']) l1 l2 ?_; intro v' w3 hR hg hn2; obtain ⟨p', cp', rfl⟩ := row_slice hR; clear hg hn2) | (go_simp; go_at_call 56; with_reducible refine Calls.mono (Hid.out (Hc _)) ?_; rintro e w6 ⟨rfl, hB⟩; have hM := Own.below hO hB; obtain ⟨d0, d1, d2, d3, d4, d5, d6, d7, d8, d9, d10, d11, d12, d13⟩ := akCells hM.p2; obtain ⟨e0, e1, e2⟩ := pkCells3 hM.swap))
          all_goals
            have hR2 : Own W NoF (row (.slice p' (k + 1) cp') 83 3 (k + 1) (pkC (P.take (k + 1))) :: blk B (akO x (.slice pp x.c.ps.length cp) (.slice pl x.c.ls.length cl) vb va (.slice (some ⟨b3, o3, none⟩) x.l.length ck)) :: L) w3 := by
              rw [Hnx.out, Hfq]
              have hc : ∀ (l : List Pk) (a b c : Int), pkC (l ++ [⟨a, b, c⟩]) = pkC l ++ [.int .i64 a, .int .i64 b, .int .i64 c] := fun l a b c => by simp [pkC, Pk.cells]
              rw [hc]
              exact hR.under fun _ _ h => h.drop
            have HR := Lib.hid hR2
            clear hR hR2 hM hO Hfq
            go_wp2_with fail
            go_roundw
            case rel => exact ⟨k + 1, by omega, by go_num, HR.out⟩
            case measure => simp [intOf]; omega
        · have hr3 : y1 % 3 = 0 ∨ y1 % 3 = 1 ∨ y1 % 3 = 2 := by omega
          have ht3 : y1.tmod 3 = y1 % 3 := Int.tmod_eq_emod_of_nonneg (by omega)
          rcases hr3 with hr3 | hr3 | hr3
          · have Hfq := (Hpk.out y0 y1 y2 0 n (by rw [if_neg hy1]; exact hr3) Hhn.out).trans (Hp0.out y0 n v Hhv.out)
            rw [hr3] at ht3
            clear hr3
            obtain ⟨LB, hLB⟩ : ∃ LB, LB = lim x.c v := ⟨_, rfl⟩
            have hlb := HLB.out v (by omega) (by omega)
            have Hc := fun w => Lib.hid (show Calls Tryz.prog 56 #[cfV x.c (.slice pp x.c.ps.length cp) (.slice pl x.c.ls.length cl), .int .i64 v] w fun e w' => e = .returned (.int .i64 (LB + 1)) ∧ Below w.heap.size w w' from by rw [hLB]; exact (HA v (by omega) (by omega) w).out)
            rw [← hLB] at Hfq hlb
            have Hnews := fun w' : World => Lib.hid (news_at w' [.int .i64 y0, .int .i64 (LB + 1), .int .i64 (n)] 83 _ rfl)
            clear hLB HA HL HC HLB Hpk Hp0 Hp1 Hp2 Hpl Hall
            go_wp2_with fail
            generalize wr.heap.size = PB at *
            generalize World.alloc wr _ = w5 at *
            have hO := H3.out.swap.drew
            clear H3
            go_region_law (first | (refine step_append_row rfl (.tmp 44) (.tmp 53) 29 rfl 83 i0 _ Tryz.underlying29 hi0 hz0 hz1 hz2 rfl (by decide) (by simp [Act.eval]) (Own.alloc hM _) ⟨w6.heap.size, 0, none⟩ 1 1 [.int .i64 y0, .int .i64 (LB + 1), .int .i64 (n)] (by simp [Act.eval]) rfl (Hnews _).out (by simp [Value.oneCell']) l1 l2 ?_; intro v' w3 hR hg hn2; obtain ⟨p', cp', rfl⟩ := row_slice hR; clear hg hn2) | (go_simp; go_at_call 56; with_reducible refine Calls.mono (Hid.out (Hc _)) ?_; rintro e w6 ⟨rfl, hB⟩; have hM := Own.below hO hB; obtain ⟨d0, d1, d2, d3, d4, d5, d6, d7, d8, d9, d10, d11, d12, d13⟩ := akCells hM.p2; obtain ⟨e0, e1, e2⟩ := pkCells3 hM.swap))
            all_goals
              have hR2 : Own W NoF (row (.slice p' (k + 1) cp') 83 3 (k + 1) (pkC (P.take (k + 1))) :: blk B (akO x (.slice pp x.c.ps.length cp) (.slice pl x.c.ls.length cl) vb va (.slice (some ⟨b3, o3, none⟩) x.l.length ck)) :: L) w3 := by
                rw [Hnx.out, Hfq]
                have hc : ∀ (l : List Pk) (a b c : Int), pkC (l ++ [⟨a, b, c⟩]) = pkC l ++ [.int .i64 a, .int .i64 b, .int .i64 c] := fun l a b c => by simp [pkC, Pk.cells]
                rw [hc]
                exact hR.under fun _ _ h => h.drop
              have HR := Lib.hid hR2
              clear hR hR2 hM hO Hfq
              go_wp2_with fail
              go_roundw
              case rel => exact ⟨k + 1, by omega, by go_num, HR.out⟩
              case measure => simp [intOf]; omega
          · have Hfq := (Hpk.out y0 y1 y2 1 n (by rw [if_neg hy1]; exact hr3) Hhn.out).trans (Hp1.out y0 n v s z Hhv.out Hhs.out Hhz.out)
            rw [hr3] at ht3
            clear hr3
            obtain ⟨LB, hLB⟩ : ∃ LB, LB = lim x.c v := ⟨_, rfl⟩
            have hlb := HLB.out v (by omega) (by omega)
            have Hc := fun w => Lib.hid (show Calls Tryz.prog 57 #[cfV x.c (.slice pp x.c.ps.length cp) (.slice pl x.c.ls.length cl), .int .i64 v, .int .i64 s] w fun e w' => e = .returned (.int .i64 (LB + 2 + s)) ∧ Below w.heap.size w w' from by rw [hLB]; exact (HL v (by omega) (by omega) s (by omega) (by omega) w).out)
            rw [← hLB] at Hfq hlb
            have Hnews := fun w' : World => Lib.hid (news_at w' [.int .i64 y0, .int .i64 (LB + 2 + s), .int .i64 (z)] 83 _ rfl)
            clear hLB HA HL HC HLB Hpk Hp0 Hp1 Hp2 Hpl Hall
            go_wp2_with fail
            generalize wr.heap.size = PB at *
            generalize World.alloc wr _ = w5 at *
            have hO := H3.out.swap.drew
            clear H3
            go_region_law (first | (refine step_append_row rfl (.tmp 57) (.tmp 72) 29 rfl 83 i0 _ Tryz.underlying29 hi0 hz0 hz1 hz2 rfl (by decide) (by simp [Act.eval]) (Own.alloc hM _) ⟨w6.heap.size, 0, none⟩ 1 1 [.int .i64 y0, .int .i64 (LB + 2 + s), .int .i64 (z)] (by simp [Act.eval]) rfl (Hnews _).out (by simp [Value.oneCell']) l1 l2 ?_; intro v' w3 hR hg hn2; obtain ⟨p', cp', rfl⟩ := row_slice hR; clear hg hn2) | (go_simp; go_at_call 57; with_reducible refine Calls.mono (Hid.out (Hc _)) ?_; rintro e w6 ⟨rfl, hB⟩; have hM := Own.below hO hB; obtain ⟨d0, d1, d2, d3, d4, d5, d6, d7, d8, d9, d10, d11, d12, d13⟩ := akCells hM.p2; obtain ⟨e0, e1, e2⟩ := pkCells3 hM.swap))
            all_goals
              have hR2 : Own W NoF (row (.slice p' (k + 1) cp') 83 3 (k + 1) (pkC (P.take (k + 1))) :: blk B (akO x (.slice pp x.c.ps.length cp) (.slice pl x.c.ls.length cl) vb va (.slice (some ⟨b3, o3, none⟩) x.l.length ck)) :: L) w3 := by
                rw [Hnx.out, Hfq]
                have hc : ∀ (l : List Pk) (a b c : Int), pkC (l ++ [⟨a, b, c⟩]) = pkC l ++ [.int .i64 a, .int .i64 b, .int .i64 c] := fun l a b c => by simp [pkC, Pk.cells]
                rw [hc]
                exact hR.under fun _ _ h => h.drop
              have HR := Lib.hid hR2
              clear hR hR2 hM hO Hfq
              go_wp2_with fail
              go_roundw
              case rel => exact ⟨k + 1, by omega, by go_num, HR.out⟩
              case measure => simp [intOf]; omega
          · have Hfq := (Hpk.out y0 y1 y2 2 n (by rw [if_neg hy1]; exact hr3) Hhn.out).trans (Hp2.out y0 n v s ev gv Hhv.out Hhs.out Hhe.out Hhg.out)
            rw [hr3] at ht3
            clear hr3
            obtain ⟨LB, hLB⟩ : ∃ LB, LB = lim x.c v := ⟨_, rfl⟩
            have hlb := HLB.out v (by omega) (by omega)
            have Hc := fun w => Lib.hid (show Calls Tryz.prog 59 #[cfV x.c (.slice pp x.c.ps.length cp) (.slice pl x.c.ls.length cl), .int .i64 v] w fun e w' => e = .returned (.int .i64 (LB + 2 + x.c.st)) ∧ Below w.heap.size w w' from by rw [hLB]; exact (HC v (by omega) (by omega) w).out)
            rw [← hLB] at Hfq hlb
            have hwB : IntKind.i64.wrap (LB + 2 + x.c.st + 4 + s) = LB + 2 + x.c.st + 4 + s := IntWalk.i64_in _ (by omega)
            have hwA : IntKind.i64.wrap (LB + 2 + x.c.st + 4) = LB + 2 + x.c.st + 4 := IntWalk.i64_in _ (by omega)
            have HWd := fun w => Lib.hid (rWord_yes ev gv (by omega) (by omega) (by omega) (by omega) w)
            have Hnews := fun w' : World => Lib.hid (news_at w' [.int .i64 y0, .int .i64 (LB + 2 + x.c.st + 4 + s), .int .i64 (sg (pmk ev gv))] 83 _ rfl)
            clear hLB HA HL HC HLB Hpk Hp0 Hp1 Hp2 Hpl Hall
            go_wp2_with fail
            refine (HWd _).out.mono ?_
            rintro e w9 ⟨rfl, rfl⟩
            go_wp2_with fail
            generalize wr.heap.size = PB at *
            generalize World.alloc wr _ = w5 at *
            have hO := H3.out.swap.drew
            clear H3
            go_region_law (first | (refine step_append_row rfl (.tmp 87) (.tmp 99) 29 rfl 83 i0 _ Tryz.underlying29 hi0 hz0 hz1 hz2 rfl (by decide) (by simp [Act.eval]) (Own.alloc hM _) ⟨w6.heap.size, 0, none⟩ 1 1 [.int .i64 y0, .int .i64 (LB + 2 + x.c.st + 4 + s), .int .i64 (sg (pmk ev gv))] (by simp [Act.eval]) rfl (Hnews _).out (by simp [Value.oneCell']) l1 l2 ?_; intro v' w3 hR hg hn2; obtain ⟨p', cp', rfl⟩ := row_slice hR; clear hg hn2) | (go_simp; go_at_call 59; with_reducible refine Calls.mono (Hid.out (Hc _)) ?_; rintro e w6 ⟨rfl, hB⟩; have hM := Own.below hO hB; obtain ⟨d0, d1, d2, d3, d4, d5, d6, d7, d8, d9, d10, d11, d12, d13⟩ := akCells hM.p2; obtain ⟨e0, e1, e2⟩ := pkCells3 hM.swap))
            all_goals
              have hR2 : Own W NoF (row (.slice p' (k + 1) cp') 83 3 (k + 1) (pkC (P.take (k + 1))) :: blk B (akO x (.slice pp x.c.ps.length cp) (.slice pl x.c.ls.length cl) vb va (.slice (some ⟨b3, o3, none⟩) x.l.length ck)) :: L) w3 := by
                rw [Hnx.out, Hfq]
                have hc : ∀ (l : List Pk) (a b c : Int), pkC (l ++ [⟨a, b, c⟩]) = pkC l ++ [.int .i64 a, .int .i64 b, .int .i64 c] := fun l a b c => by simp [pkC, Pk.cells]
                rw [hc]
                exact hR.under fun _ _ h => h.drop
              have HR := Lib.hid hR2
              clear hR hR2 hM hO Hfq
              go_wp2_with fail
              go_roundw
              case rel => exact ⟨k + 1, by omega, by go_num, HR.out⟩
              case measure => simp [intOf]; omega
    · obtain rfl : k = x.l.length := by omega
      have HO2 := Lib.hid (hO.under fun _ _ h => h.drop)
      go_wp2_with fail
      go_ret
      exact ⟨_, rfl, HO2.out⟩
end Go.Proofs.YtjfjjmlocgmicaaGreat
end
section
namespace Go.Proofs.YtjfjjmlocgmicaaGreat
open Go.ChangeShapes Go.WideShapes Go.ChangeAt Go.RowKit Go.Shelf
set_option linter.unusedVariables false
set_option maxRecDepth 100000
variable {w0 w w' : World} {F0 : Nat → Prop} {L : List Asn} {T : TypeId} {m : Nat} {ws : List Int} {lg : List Acc}
end Go.Proofs.YtjfjjmlocgmicaaGreat
end
