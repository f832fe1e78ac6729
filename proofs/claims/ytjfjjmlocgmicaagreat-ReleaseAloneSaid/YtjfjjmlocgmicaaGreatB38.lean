/- Texts of elder layers, one behind the other: AskPokes, Crew, Held, RelSums, RelVer. -/
import Derived.Test.YtjfjjmlocgmicaaGreatB37
import Derived.Deep.RegionLaw
import Derived.Laws.MakeOwn
import Derived.OrdersHeld
import Derived.WalkKit
section
namespace Go.Proofs.YtjfjjmlocgmicaaGreat
open Go.ChangeShapes Go.WideShapes Go.ChangeAt Go.RowKit Go.Shelf
set_option linter.unusedVariables false
set_option linter.unusedSimpArgs false
set_option maxRecDepth 100000
variable {w0 w w' W : World} {F0 : Nat → Prop} {L : List Asn}
set_option maxHeartbeats 8000000 in
theorem aPokes_any {x : Ak} {vp vl vb va vk : Value} (H : AkAt W x vp vl vb va vk) (hg : GoodA x) (h : Own W NoF L w) :
    Calls Tryz.prog 17 #[akV x vp vl vb va vk] w (RetRow W NoF L 83 3 (poA x).length (pkC (poA x))) := by
  have hr := hg.rt
  obtain ⟨pp, cp, rfl⟩ := H.p.slice
  obtain ⟨pl, cl, rfl⟩ := H.l.slice
  obtain ⟨pk, ck, rfl⟩ := RowAt.slice H.k
  have n0 := hr.n0
  have n1 := hr.n1
  have hle := hr.le
  have hga := hr.ga
  unfold Bd at hle hga
  have hst := hr.sm
  have h1 := h.new (akO x (.slice pp x.c.ps.length cp) (.slice pl x.c.ls.length cl) vb va (.slice pk x.l.length ck))
  have HA := fun v v0 v1 w => Lib.hid (rAvail_q (pp := pp) (np := x.c.ps.length) (cp := cp) (pl := pl) (nl := x.c.ls.length) (cl := cl) x.c hst v v0 v1 w)
  have HL := fun v v0 v1 k k0 k1 w => Lib.hid (rLease_q (pp := pp) (np := x.c.ps.length) (cp := cp) (pl := pl) (nl := x.c.ls.length) (cl := cl) x.c hst v v0 v1 k k0 k1 w)
  have HC := fun v v0 v1 w => Lib.hid (rCounter_q (pp := pp) (np := x.c.ps.length) (cp := cp) (pl := pl) (nl := x.c.ls.length) (cl := cl) x.c hst v v0 v1 w)
  have HLB := Lib.hid (fun (v : Int) (v0 : 0 ≤ v) (v1 : v ≤ 13) => lim_bd hst v0 v1)
  have HK := Lib.hid H.k
  have HI := Lib.hid H.wf.l
  have hl40 := hg.l
  have Hpk := Lib.hid (fun y0 y1 y2 r n hr hn => pokeA_of (c := x.c) (y0 := y0) (y1 := y1) (y2 := y2) (r := r) (n := n) hr hn)
  have Hp0 := Lib.hid (fun a n v hv => pkzA_0 (c := x.c) (a := a) (n := n) (v := v) hv)
  have Hp1 := Lib.hid (fun a n v s z hv hs hz => pkzA_1 (c := x.c) (a := a) (n := n) (v := v) (s := s) (z := z) hv hs hz)
  have Hp2 := Lib.hid (fun a n v s e g hv hs he hg => pkzA_2 (c := x.c) (a := a) (n := n) (v := v) (s := s) (e := e) (g := g) hv hs he hg)
  have Htk := Lib.hid (poA_take x)
  have Hpl := Lib.hid (poA_len x)
  have Hall := Lib.hid (show poA x = (poA x).take x.l.length by rw [← poA_len, List.take_length])
  rw [Hpl.out, Hall.out]
  generalize poA x = P at *
  generalize pokeA x.c = fP at *
  have H1 := Lib.hid h1
  obtain ⟨st0, st1⟩ := hst
  obtain ⟨i0, hi0, hz0, hz1, hz2⟩ := info_parts Tryz.info_pk
  unfold akV
  clear h h1 hr H hg
  go_enter Tryz.func17, Tryz.ntmps17
  obtain ⟨B, hBd⟩ : ∃ B, B = w.heap.size := ⟨_, rfl⟩
  have H2 := Lib.hid (show Own W NoF (row (.slice none 0 0) 83 3 0 [] :: blk B (akO x (.slice pp x.c.ps.length cp) (.slice pl x.c.ls.length cl) vb va (.slice pk x.l.length ck)) :: L) (w.alloc (akO x (.slice pp x.c.ps.length cp) (.slice pl x.c.ls.length cl) vb va (.slice pk x.l.length ck))) from by rw [hBd]; exact H1.out.rowNil)
  obtain ⟨d0, d1, d2, d3, d4, d5, d6, d7, d8, d9, d10, d11, d12, d13⟩ := akCells H2.out.swap
  clear H1
  go_wp2_with fail
  rw [← hBd]
  clear hBd d0 d1 d2 d3 d4 d5 d6 d7 d8 d9 d10 d11 d12 d13
  go_loopw [3, 4, 5, 6, 7, 8, 9, 10] (fun v3 v4 v5 v6 v7 v8 v9 v10 wr => ∃ k : Nat, k ≤ x.l.length ∧ v4 = .int .i64 k ∧ Own W NoF (row v3 83 3 k (pkC (P.take k)) :: blk B (akO x (.slice pp x.c.ps.length cp) (.slice pl x.c.ls.length cl) vb va (.slice pk x.l.length ck)) :: L) wr) (fun v3 v4 v5 v6 v7 v8 v9 v10 _ => x.l.length - (intOf v4).toNat)
  case atStart => exact ⟨0, Nat.zero_le _, rfl, by simpa [pkC, akO] using H2.out⟩
  case round =>
    obtain ⟨k, hk, rfl, hO⟩ := hrel
    clear H2
    obtain ⟨po, co, rfl⟩ := row_slice hO
    obtain ⟨d0, d1, d2, d3, d4, d5, d6, d7, d8, d9, d10, d11, d12, d13⟩ := akCells hO.swap
    by_cases hlt : k < x.l.length
    · obtain ⟨b3, o3, e3, hb3, hc3⟩ := (RowAt.below HK.out hO.toBelow).at (by rw [pkC_len]; omega) (by omega)
      have Hnx := Lib.hid (Htk.out k hlt)
      have hIq := HI.out (x.l.getD k default) (by simp [List.getD, hlt])
      obtain ⟨q, hq⟩ : ∃ q, q = x.l.getD k default := ⟨_, rfl⟩
      have e := fun i hi => pkC_get x.l k i hlt hi
      rw [← hq] at e Hnx hIq
      obtain ⟨y0, y1, y2⟩ := q
      simp only at hIq
      obtain ⟨I0, I1, I2⟩ := hIq
      unfold I64 at I0 I1 I2
      have x0 : wr.cell? ⟨b3, o3 + k * 3, none⟩ = some (.int .i64 y0) := hc3 (k * 3 + 0) _ (e 0 (by omega))
      have x1 : wr.cell? ⟨b3, o3 + k * 3 + 1, none⟩ = some (.int .i64 y1) := hc3 (k * 3 + 1) _ (e 1 (by omega))
      have x2 : wr.cell? ⟨b3, o3 + k * 3 + 2, none⟩ = some (.int .i64 y2) := hc3 (k * 3 + 2) _ (e 2 (by omega))
      clear hc3 e hq HK HI Htk
      subst e3
      have h3 := hO.new (.cells #[.int .i64 y0, .int .i64 y1, .int .i64 y2] 83)
      have H3 := Lib.hid h3
      obtain ⟨e0, e1, e2⟩ := pkCells3 h3
      have h5 := h3.p2
      have hkl : (k : Int) < (x.l.length : Int) := by omega
      have l1 : k + 1 ≤ maxLen := by unfold maxLen; omega
      have l2 : (k + 1) * 24 ≤ 140737488355328 := by omega
      have hza : ¬ (x.c.ps.length : Int) = 0 := by omega
      have hzb : ¬ x.c.st = 0 := by omega
      have hzd : ¬ x.c.ga = 0 := by omega
      have hw2 : IntKind.i64.wrap (x.c.le + 1) = x.c.le + 1 := IntWalk.i64_in _ (by omega)
      have hw4 : ¬ x.c.le + 1 = 0 := by omega
      clear hO
      obtain ⟨d0, d1, d2, d3, d4, d5, d6, d7, d8, d9, d10, d11, d12, d13⟩ := akCells h5
      clear h3 h5
      by_cases hy2 : y2 < 0
      · have hnn : (if y2 < 0 then 0 else y2) % 4294967296 = 0 := by rw [if_pos hy2]; rfl
        by_cases hy1 : y1 < 0
        · have Hfq := (Hpk.out y0 y1 y2 0 0 (by rw [if_pos hy1]; rfl) hnn).trans (Hp0.out y0 0 0 (by simp))
          obtain ⟨LB, hLB⟩ : ∃ LB, LB = lim x.c 0 := ⟨_, rfl⟩
          have hlb := HLB.out 0 (by omega) (by omega)
          have Hc := fun w => Lib.hid (show Calls Tryz.prog 56 #[cfV x.c (.slice pp x.c.ps.length cp) (.slice pl x.c.ls.length cl), .int .i64 0] w fun e w' => e = .returned (.int .i64 (LB + 1)) ∧ Below w.heap.size w w' from by rw [hLB]; exact (HA 0 (by omega) (by omega) w).out)
          rw [← hLB] at Hfq hlb
          have Hnews := fun w' : World => Lib.hid (news_at w' [.int .i64 y0, .int .i64 (LB + 1), .int .i64 (0)] 83 _ rfl)
          clear hLB HA HL HC HLB Hpk Hp0 Hp1 Hp2 Hpl Hall
          clear hnn
          go_wp2_with fail
          generalize wr.heap.size = PB at *
          generalize World.alloc wr _ = w5 at *
          have hO := H3.out.swap.drew
          clear H3
          go_region_law (first | (refine step_append_row rfl (.tmp 44) (.tmp 53) 29 rfl 83 i0 _ Tryz.underlying29 hi0 hz0 hz1 hz2 rfl (by decide) (by simp [Act.eval]) (Own.alloc hM _) ⟨w6.heap.size, 0, none⟩ 1 1 [.int .i64 y0, .int .i64 (LB + 1), .int .i64 (0)] (by simp [Act.eval]) rfl (Hnews _).out (by simp [Value.oneCell']) l1 l2 ?_; intro v' w3 hR hg hn2; obtain ⟨p', cp', rfl⟩ := row_slice hR; clear hg hn2) | (go_simp; go_at_call 56; with_reducible refine Calls.mono (Hid.out (Hc _)) ?_; rintro e w6 ⟨rfl, hB⟩; have hM := Own.below hO hB; obtain ⟨d0, d1, d2, d3, d4, d5, d6, d7, d8, d9, d10, d11, d12, d13⟩ := akCells hM.p2; obtain ⟨e0, e1, e2⟩ := pkCells3 hM.swap))
          all_goals
            have hR2 : Own W NoF (row (.slice p' (k + 1) cp') 83 3 (k + 1) (pkC (P.take (k + 1))) :: blk B (akO x (.slice pp x.c.ps.length cp) (.slice pl x.c.ls.length cl) vb va (.slice (some ⟨b3, o3, none⟩) x.l.length ck)) :: L) w3 := by
              rw [Hnx.out, Hfq]
              have hc : ∀ (l : List Pk) (a b c : Int), pkC (l ++ [⟨a, b, c⟩]) = pkC l ++ [.int .i64 a, .int .i64 b, .int .i64 c] := fun l a b c => by simp [pkC, Pk.cells]
              rw [hc]
              exact hR.under fun _ _ h => h.drop
            have HR := Lib.hid hR2
            clear hR hR2 hM hO Hfq
            go_wp2_with fail
            go_roundw
            case rel => exact ⟨k + 1, by omega, by go_num, HR.out⟩
            case measure => simp [intOf]; omega
        · have hr3 : y1 % 3 = 0 ∨ y1 % 3 = 1 ∨ y1 % 3 = 2 := by omega
          have ht3 : y1.tmod 3 = y1 % 3 := Int.tmod_eq_emod_of_nonneg (by omega)
          rcases hr3 with hr3 | hr3 | hr3
          · have Hfq := (Hpk.out y0 y1 y2 0 0 (by rw [if_neg hy1]; exact hr3) hnn).trans (Hp0.out y0 0 0 (by simp))
            rw [hr3] at ht3
            clear hr3
            obtain ⟨LB, hLB⟩ : ∃ LB, LB = lim x.c 0 := ⟨_, rfl⟩
            have hlb := HLB.out 0 (by omega) (by omega)
            have Hc := fun w => Lib.hid (show Calls Tryz.prog 56 #[cfV x.c (.slice pp x.c.ps.length cp) (.slice pl x.c.ls.length cl), .int .i64 0] w fun e w' => e = .returned (.int .i64 (LB + 1)) ∧ Below w.heap.size w w' from by rw [hLB]; exact (HA 0 (by omega) (by omega) w).out)
            rw [← hLB] at Hfq hlb
            have Hnews := fun w' : World => Lib.hid (news_at w' [.int .i64 y0, .int .i64 (LB + 1), .int .i64 (0)] 83 _ rfl)
            clear hLB HA HL HC HLB Hpk Hp0 Hp1 Hp2 Hpl Hall
            clear hnn
            go_wp2_with fail
            generalize wr.heap.size = PB at *
            generalize World.alloc wr _ = w5 at *
            have hO := H3.out.swap.drew
            clear H3
            go_region_law (first | (refine step_append_row rfl (.tmp 44) (.tmp 53) 29 rfl 83 i0 _ Tryz.underlying29 hi0 hz0 hz1 hz2 rfl (by decide) (by simp [Act.eval]) (Own.alloc hM _) ⟨w6.heap.size, 0, none⟩ 1 1 [.int .i64 y0, .int .i64 (LB + 1), .int .i64 (0)] (by simp [Act.eval]) rfl (Hnews _).out (by simp [Value.oneCell']) l1 l2 ?_; intro v' w3 hR hg hn2; obtain ⟨p', cp', rfl⟩ := row_slice hR; clear hg hn2) | (go_simp; go_at_call 56; with_reducible refine Calls.mono (Hid.out (Hc _)) ?_; rintro e w6 ⟨rfl, hB⟩; have hM := Own.below hO hB; obtain ⟨d0, d1, d2, d3, d4, d5, d6, d7, d8, d9, d10, d11, d12, d13⟩ := akCells hM.p2; obtain ⟨e0, e1, e2⟩ := pkCells3 hM.swap))
            all_goals
              have hR2 : Own W NoF (row (.slice p' (k + 1) cp') 83 3 (k + 1) (pkC (P.take (k + 1))) :: blk B (akO x (.slice pp x.c.ps.length cp) (.slice pl x.c.ls.length cl) vb va (.slice (some ⟨b3, o3, none⟩) x.l.length ck)) :: L) w3 := by
                rw [Hnx.out, Hfq]
                have hc : ∀ (l : List Pk) (a b c : Int), pkC (l ++ [⟨a, b, c⟩]) = pkC l ++ [.int .i64 a, .int .i64 b, .int .i64 c] := fun l a b c => by simp [pkC, Pk.cells]
                rw [hc]
                exact hR.under fun _ _ h => h.drop
              have HR := Lib.hid hR2
              clear hR hR2 hM hO Hfq
              go_wp2_with fail
              go_roundw
              case rel => exact ⟨k + 1, by omega, by go_num, HR.out⟩
              case measure => simp [intOf]; omega
          · have Hfq := (Hpk.out y0 y1 y2 1 0 (by rw [if_neg hy1]; exact hr3) hnn).trans (Hp1.out y0 0 0 0 0 (by simp) (by simp) (by simp))
            rw [hr3] at ht3
            clear hr3
            obtain ⟨LB, hLB⟩ : ∃ LB, LB = lim x.c 0 := ⟨_, rfl⟩
            have hlb := HLB.out 0 (by omega) (by omega)
            have Hc := fun w => Lib.hid (show Calls Tryz.prog 57 #[cfV x.c (.slice pp x.c.ps.length cp) (.slice pl x.c.ls.length cl), .int .i64 0, .int .i64 0] w fun e w' => e = .returned (.int .i64 (LB + 2)) ∧ Below w.heap.size w w' from by rw [hLB]; have h := (HL 0 (by omega) (by omega) 0 (by omega) (by omega) w).out; (try rw [Int.add_zero] at h); exact h)
            rw [Int.add_zero] at Hfq
            rw [← hLB] at Hfq hlb
            have Hnews := fun w' : World => Lib.hid (news_at w' [.int .i64 y0, .int .i64 (LB + 2), .int .i64 (0)] 83 _ rfl)
            clear hLB HA HL HC HLB Hpk Hp0 Hp1 Hp2 Hpl Hall
            clear hnn
            go_wp2_with fail
            generalize wr.heap.size = PB at *
            generalize World.alloc wr _ = w5 at *
            have hO := H3.out.swap.drew
            clear H3
            go_region_law (first | (refine step_append_row rfl (.tmp 57) (.tmp 72) 29 rfl 83 i0 _ Tryz.underlying29 hi0 hz0 hz1 hz2 rfl (by decide) (by simp [Act.eval]) (Own.alloc hM _) ⟨w6.heap.size, 0, none⟩ 1 1 [.int .i64 y0, .int .i64 (LB + 2), .int .i64 (0)] (by simp [Act.eval]) rfl (Hnews _).out (by simp [Value.oneCell']) l1 l2 ?_; intro v' w3 hR hg hn2; obtain ⟨p', cp', rfl⟩ := row_slice hR; clear hg hn2) | (go_simp; go_at_call 57; with_reducible refine Calls.mono (Hid.out (Hc _)) ?_; rintro e w6 ⟨rfl, hB⟩; have hM := Own.below hO hB; obtain ⟨d0, d1, d2, d3, d4, d5, d6, d7, d8, d9, d10, d11, d12, d13⟩ := akCells hM.p2; obtain ⟨e0, e1, e2⟩ := pkCells3 hM.swap))
            all_goals
              have hR2 : Own W NoF (row (.slice p' (k + 1) cp') 83 3 (k + 1) (pkC (P.take (k + 1))) :: blk B (akO x (.slice pp x.c.ps.length cp) (.slice pl x.c.ls.length cl) vb va (.slice (some ⟨b3, o3, none⟩) x.l.length ck)) :: L) w3 := by
                rw [Hnx.out, Hfq]
                have hc : ∀ (l : List Pk) (a b c : Int), pkC (l ++ [⟨a, b, c⟩]) = pkC l ++ [.int .i64 a, .int .i64 b, .int .i64 c] := fun l a b c => by simp [pkC, Pk.cells]
                rw [hc]
                exact hR.under fun _ _ h => h.drop
              have HR := Lib.hid hR2
              clear hR hR2 hM hO Hfq
              go_wp2_with fail
              go_roundw
              case rel => exact ⟨k + 1, by omega, by go_num, HR.out⟩
              case measure => simp [intOf]; omega
          · have Hfq := (Hpk.out y0 y1 y2 2 0 (by rw [if_neg hy1]; exact hr3) hnn).trans (Hp2.out y0 0 0 0 0 0 (by simp) (by simp) (by simp) (by simp))
            rw [hr3] at ht3
            clear hr3
            obtain ⟨LB, hLB⟩ : ∃ LB, LB = lim x.c 0 := ⟨_, rfl⟩
            have hlb := HLB.out 0 (by omega) (by omega)
            have Hc := fun w => Lib.hid (show Calls Tryz.prog 59 #[cfV x.c (.slice pp x.c.ps.length cp) (.slice pl x.c.ls.length cl), .int .i64 0] w fun e w' => e = .returned (.int .i64 (LB + 2 + x.c.st)) ∧ Below w.heap.size w w' from by rw [hLB]; have h := (HC 0 (by omega) (by omega) w).out; (try rw [Int.add_zero] at h); exact h)
            rw [Int.add_zero] at Hfq
            rw [← hLB] at Hfq hlb
            have hwA : IntKind.i64.wrap (LB + 2 + x.c.st + 4) = LB + 2 + x.c.st + 4 := IntWalk.i64_in _ (by omega)
            have HWd := fun w => Lib.hid (rWord_yes 0 0 (by omega) (by omega) (by omega) (by omega) w)
            have Hnews := fun w' : World => Lib.hid (news_at w' [.int .i64 y0, .int .i64 (LB + 2 + x.c.st + 4), .int .i64 (sg (pmk 0 0))] 83 _ rfl)
            clear hLB HA HL HC HLB Hpk Hp0 Hp1 Hp2 Hpl Hall
            clear hnn
            go_wp2_with fail
            refine (HWd _).out.mono ?_
            rintro e w9 ⟨rfl, rfl⟩
            go_wp2_with fail
            generalize wr.heap.size = PB at *
            generalize World.alloc wr _ = w5 at *
            have hO := H3.out.swap.drew
            clear H3
            go_region_law (first | (refine step_append_row rfl (.tmp 87) (.tmp 99) 29 rfl 83 i0 _ Tryz.underlying29 hi0 hz0 hz1 hz2 rfl (by decide) (by simp [Act.eval]) (Own.alloc hM _) ⟨w6.heap.size, 0, none⟩ 1 1 [.int .i64 y0, .int .i64 (LB + 2 + x.c.st + 4), .int .i64 (sg (pmk 0 0))] (by simp [Act.eval]) rfl (Hnews _).out (by simp [Value.oneCell']) l1 l2 ?_; intro v' w3 hR hg hn2; obtain ⟨p', cp', rfl⟩ := row_slice hR; clear hg hn2) | (go_simp; go_at_call 59; with_reducible refine Calls.mono (Hid.out (Hc _)) ?_; rintro e w6 ⟨rfl, hB⟩; have hM := Own.below hO hB; obtain ⟨d0, d1, d2, d3, d4, d5, d6, d7, d8, d9, d10, d11, d12, d13⟩ := akCells hM.p2; obtain ⟨e0, e1, e2⟩ := pkCells3 hM.swap))
            all_goals
              have hR2 : Own W NoF (row (.slice p' (k + 1) cp') 83 3 (k + 1) (pkC (P.take (k + 1))) :: blk B (akO x (.slice pp x.c.ps.length cp) (.slice pl x.c.ls.length cl) vb va (.slice (some ⟨b3, o3, none⟩) x.l.length ck)) :: L) w3 := by
                rw [Hnx.out, Hfq]
                have hc : ∀ (l : List Pk) (a b c : Int), pkC (l ++ [⟨a, b, c⟩]) = pkC l ++ [.int .i64 a, .int .i64 b, .int .i64 c] := fun l a b c => by simp [pkC, Pk.cells]
                rw [hc]
                exact hR.under fun _ _ h => h.drop
              have HR := Lib.hid hR2
              clear hR hR2 hM hO Hfq
              go_wp2_with fail
              go_roundw
              case rel => exact ⟨k + 1, by omega, by go_num, HR.out⟩
              case measure => simp [intOf]; omega
      · have hnn0 : (if y2 < 0 then 0 else y2) % 4294967296 = y2 % 4294967296 := by rw [if_neg hy2]
        obtain ⟨n, hn⟩ : ∃ n, y2 % 4294967296 = n := ⟨_, rfl⟩
        have nb : 0 ≤ n ∧ n < 4294967296 := by omega
        have m0 : y2.tmod 4294967296 = n := by rw [← hn]; exact Int.tmod_eq_emod_of_nonneg (by omega)
        have hnn := hnn0.trans hn
        clear hnn0 hn
        obtain ⟨v, hv⟩ : ∃ v, n % (x.c.ps.length : Int) = v := ⟨_, rfl⟩
        have vb2 : 0 ≤ v ∧ v < (x.c.ps.length : Int) := by rw [← hv]; exact ⟨Int.emod_nonneg _ hza, Int.emod_lt_of_pos _ (by omega)⟩
        have m1 : n.tmod (x.c.ps.length : Int) = v := by rw [← hv]; exact Int.tmod_eq_emod_of_nonneg nb.1
        obtain ⟨s, hs⟩ : ∃ s, n % x.c.st = s := ⟨_, rfl⟩
        have sb2 : 0 ≤ s ∧ s < x.c.st := by rw [← hs]; exact ⟨Int.emod_nonneg _ hzb, Int.emod_lt_of_pos _ (by omega)⟩
        have m2 : n.tmod x.c.st = s := by rw [← hs]; exact Int.tmod_eq_emod_of_nonneg nb.1
        obtain ⟨z, hz⟩ : ∃ z, n % (x.c.le + 1) = z := ⟨_, rfl⟩
        have zb2 : 0 ≤ z ∧ z < x.c.le + 1 := by rw [← hz]; exact ⟨Int.emod_nonneg _ hw4, Int.emod_lt_of_pos _ (by omega)⟩
        have m3 : n.tmod (x.c.le + 1) = z := by rw [← hz]; exact Int.tmod_eq_emod_of_nonneg nb.1
        obtain ⟨ev, he⟩ : ∃ e, n % 1000 = e := ⟨_, rfl⟩
        have eb2 : 0 ≤ ev ∧ ev < 1000 := by omega
        have m4 : n.tmod 1000 = ev := by rw [← he]; exact Int.tmod_eq_emod_of_nonneg nb.1
        obtain ⟨gv, hgv⟩ : ∃ g, n % x.c.ga = g := ⟨_, rfl⟩
        have gb2 : 0 ≤ gv ∧ gv < x.c.ga := by rw [← hgv]; exact ⟨Int.emod_nonneg _ hzd, Int.emod_lt_of_pos _ (by omega)⟩
        have m5 : n.tmod x.c.ga = gv := by rw [← hgv]; exact Int.tmod_eq_emod_of_nonneg nb.1
        have Hhv := Lib.hid hv
        have Hhs := Lib.hid hs
        have Hhz := Lib.hid hz
        have Hhe := Lib.hid he
        have Hhg := Lib.hid hgv
        have Hhn := Lib.hid hnn
        clear hv hs hz he hgv hnn
        by_cases hy1 : y1 < 0
        · have Hfq := (Hpk.out y0 y1 y2 0 n (by rw [if_pos hy1]; rfl) Hhn.out).trans (Hp0.out y0 n v Hhv.out)
          obtain ⟨LB, hLB⟩ : ∃ LB, LB = lim x.c v := ⟨_, rfl⟩
          have hlb := HLB.out v (by omega) (by omega)
          have Hc := fun w => Lib.hid (show Calls Tryz.prog 56 #[cfV x.c (.slice pp x.c.ps.length cp) (.slice pl x.c.ls.length cl), .int .i64 v] w fun e w' => e = .returned (.int .i64 (LB + 1)) ∧ Below w.heap.size w w' from by rw [hLB]; exact (HA v (by omega) (by omega) w).out)
          rw [← hLB] at Hfq hlb
          have Hnews := fun w' : World => Lib.hid (news_at w' [.int .i64 y0, .int .i64 (LB + 1), .int .i64 (n)] 83 _ rfl)
          clear hLB HA HL HC HLB Hpk Hp0 Hp1 Hp2 Hpl Hall
          go_wp2_with fail
          generalize wr.heap.size = PB at *
          generalize World.alloc wr _ = w5 at *
          have hO := H3.out.swap.drew
          clear H3
          go_region_law (first | (refine step_append_row rfl (.tmp 44) (.tmp 53) 29 rfl 83 i0 _ Tryz.underlying29 hi0 hz0 hz1 hz2 rfl (by decide) (by simp [Act.eval]) (Own.alloc hM _) ⟨w6.heap.size, 0, none⟩ 1 1 [.int .i64 y0, .int .i64 (LB + 1), .int .i64 (n)] (by simp [Act.eval]) rfl (Hnews _).out (by simp [Value.oneCell']) l1 l2 ?_; intro v' w3 hR hg hn2; obtain ⟨p', cp', rfl⟩ := row_slice hR; clear hg hn2) | (go_simp; go_at_call 56; with_reducible refine Calls.mono (Hid.out (Hc _)) ?_; rintro e w6 ⟨rfl, hB⟩; have hM := Own.below hO hB; obtain ⟨d0, d1, d2, d3, d4, d5, d6, d7, d8, d9, d10, d11, d12, d13⟩ := akCells hM.p2; obtain ⟨e0, e1, e2⟩ := pkCells3 hM.swap))
          all_goals
            have hR2 : Own W NoF (row (.slice p' (k + 1) cp') 83 3 (k + 1) (pkC (P.take (k + 1))) :: blk B (akO x (.slice pp x.c.ps.length cp) (.slice pl x.c.ls.length cl) vb va (.slice (some ⟨b3, o3, none⟩) x.l.length ck)) :: L) w3 := by
              rw [Hnx.out, Hfq]
              have hc : ∀ (l : List Pk) (a b c : Int), pkC (l ++ [⟨a, b, c⟩]) = pkC l ++ [.int .i64 a, .int .i64 b, .int .i64 c] := fun l a b c => by simp [pkC, Pk.cells]
              rw [hc]
              exact hR.under fun _ _ h => h.drop
            have HR := Lib.hid hR2
            clear hR hR2 hM hO Hfq
            go_wp2_with fail
            go_roundw
            case rel => exact ⟨k + 1, by omega, by go_num, HR.out⟩
            case measure => simp [intOf]; omega
        · have hr3 : y1 % 3 = 0 ∨ y1 % 3 = 1 ∨ y1 % 3 = 2 := by omega
          have ht3 : y1.tmod 3 = y1 % 3 := Int.tmod_eq_emod_of_nonneg (by omega)
          rcases hr3 with hr3 | hr3 | hr3
          · have Hfq := (Hpk.out y0 y1 y2 0 n (by rw [if_neg hy1]; exact hr3) Hhn.out).trans (Hp0.out y0 n v Hhv.out)
            rw [hr3] at ht3
            clear hr3
            obtain ⟨LB, hLB⟩ : ∃ LB, LB = lim x.c v := ⟨_, rfl⟩
            have hlb := HLB.out v (by omega) (by omega)
            have Hc := fun w => Lib.hid (show Calls Tryz.prog 56 #[cfV x.c (.slice pp x.c.ps.length cp) (.slice pl x.c.ls.length cl), .int .i64 v] w fun e w' => e = .returned (.int .i64 (LB + 1)) ∧ Below w.heap.size w w' from by rw [hLB]; exact (HA v (by omega) (by omega) w).out)
            rw [← hLB] at Hfq hlb
            have Hnews := fun w' : World => Lib.hid (news_at w' [.int .i64 y0, .int .i64 (LB + 1), .int .i64 (n)] 83 _ rfl)
            clear hLB HA HL HC HLB Hpk Hp0 Hp1 Hp2 Hpl Hall
            go_wp2_with fail
            generalize wr.heap.size = PB at *
            generalize World.alloc wr _ = w5 at *
            have hO := H3.out.swap.drew
            clear H3
            go_region_law (first | (refine step_append_row rfl (.tmp 44) (.tmp 53) 29 rfl 83 i0 _ Tryz.underlying29 hi0 hz0 hz1 hz2 rfl (by decide) (by simp [Act.eval]) (Own.alloc hM _) ⟨w6.heap.size, 0, none⟩ 1 1 [.int .i64 y0, .int .i64 (LB + 1), .int .i64 (n)] (by simp [Act.eval]) rfl (Hnews _).out (by simp [Value.oneCell']) l1 l2 ?_; intro v' w3 hR hg hn2; obtain ⟨p', cp', rfl⟩ := row_slice hR; clear hg hn2) | (go_simp; go_at_call 56; with_reducible refine Calls.mono (Hid.out (Hc _)) ?_; rintro e w6 ⟨rfl, hB⟩; have hM := Own.below hO hB; obtain ⟨d0, d1, d2, d3, d4, d5, d6, d7, d8, d9, d10, d11, d12, d13⟩ := akCells hM.p2; obtain ⟨e0, e1, e2⟩ := pkCells3 hM.swap))
            all_goals
              have hR2 : Own W NoF (row (.slice p' (k + 1) cp') 83 3 (k + 1) (pkC (P.take (k + 1))) :: blk B (akO x (.slice pp x.c.ps.length cp) (.slice pl x.c.ls.length cl) vb va (.slice (some ⟨b3, o3, none⟩) x.l.length ck)) :: L) w3 := by
                rw [Hnx.out, Hfq]
                have hc : ∀ (l : List Pk) (a b c : Int), pkC (l ++ [⟨a, b, c⟩]) = pkC l ++ [.int .i64 a, .int .i64 b, .int .i64 c] := fun l a b c => by simp [pkC, Pk.cells]
                rw [hc]
                exact hR.under fun _ _ h => h.drop
              have HR := Lib.hid hR2
              clear hR hR2 hM hO Hfq
              go_wp2_with fail
              go_roundw
              case rel => exact ⟨k + 1, by omega, by go_num, HR.out⟩
              case measure => simp [intOf]; omega
          · have Hfq := (Hpk.out y0 y1 y2 1 n (by rw [if_neg hy1]; exact hr3) Hhn.out).trans (Hp1.out y0 n v s z Hhv.out Hhs.out Hhz.out)
            rw [hr3] at ht3
            clear hr3
            obtain ⟨LB, hLB⟩ : ∃ LB, LB = lim x.c v := ⟨_, rfl⟩
            have hlb := HLB.out v (by omega) (by omega)
            have Hc := fun w => Lib.hid (show Calls Tryz.prog 57 #[cfV x.c (.slice pp x.c.ps.length cp) (.slice pl x.c.ls.length cl), .int .i64 v, .int .i64 s] w fun e w' => e = .returned (.int .i64 (LB + 2 + s)) ∧ Below w.heap.size w w' from by rw [hLB]; exact (HL v (by omega) (by omega) s (by omega) (by omega) w).out)
            rw [← hLB] at Hfq hlb
            have Hnews := fun w' : World => Lib.hid (news_at w' [.int .i64 y0, .int .i64 (LB + 2 + s), .int .i64 (z)] 83 _ rfl)
            clear hLB HA HL HC HLB Hpk Hp0 Hp1 Hp2 Hpl Hall
            go_wp2_with fail
            generalize wr.heap.size = PB at *
            generalize World.alloc wr _ = w5 at *
            have hO := H3.out.swap.drew
            clear H3
            go_region_law (first | (refine step_append_row rfl (.tmp 57) (.tmp 72) 29 rfl 83 i0 _ Tryz.underlying29 hi0 hz0 hz1 hz2 rfl (by decide) (by simp [Act.eval]) (Own.alloc hM _) ⟨w6.heap.size, 0, none⟩ 1 1 [.int .i64 y0, .int .i64 (LB + 2 + s), .int .i64 (z)] (by simp [Act.eval]) rfl (Hnews _).out (by simp [Value.oneCell']) l1 l2 ?_; intro v' w3 hR hg hn2; obtain ⟨p', cp', rfl⟩ := row_slice hR; clear hg hn2) | (go_simp; go_at_call 57; with_reducible refine Calls.mono (Hid.out (Hc _)) ?_; rintro e w6 ⟨rfl, hB⟩; have hM := Own.below hO hB; obtain ⟨d0, d1, d2, d3, d4, d5, d6, d7, d8, d9, d10, d11, d12, d13⟩ := akCells hM.p2; obtain ⟨e0, e1, e2⟩ := pkCells3 hM.swap))
            all_goals
              have hR2 : Own W NoF (row (.slice p' (k + 1) cp') 83 3 (k + 1) (pkC (P.take (k + 1))) :: blk B (akO x (.slice pp x.c.ps.length cp) (.slice pl x.c.ls.length cl) vb va (.slice (some ⟨b3, o3, none⟩) x.l.length ck)) :: L) w3 := by
                rw [Hnx.out, Hfq]
                have hc : ∀ (l : List Pk) (a b c : Int), pkC (l ++ [⟨a, b, c⟩]) = pkC l ++ [.int .i64 a, .int .i64 b, .int .i64 c] := fun l a b c => by simp [pkC, Pk.cells]
                rw [hc]
                exact hR.under fun _ _ h => h.drop
              have HR := Lib.hid hR2
              clear hR hR2 hM hO Hfq
              go_wp2_with fail
              go_roundw
              case rel => exact ⟨k + 1, by omega, by go_num, HR.out⟩
              case measure => simp [intOf]; omega
          · have Hfq := (Hpk.out y0 y1 y2 2 n (by rw [if_neg hy1]; exact hr3) Hhn.out).trans (Hp2.out y0 n v s ev gv Hhv.out Hhs.out Hhe.out Hhg.out)
            rw [hr3] at ht3
            clear hr3
            obtain ⟨LB, hLB⟩ : ∃ LB, LB = lim x.c v := ⟨_, rfl⟩
            have hlb := HLB.out v (by omega) (by omega)
            have Hc := fun w => Lib.hid (show Calls Tryz.prog 59 #[cfV x.c (.slice pp x.c.ps.length cp) (.slice pl x.c.ls.length cl), .int .i64 v] w fun e w' => e = .returned (.int .i64 (LB + 2 + x.c.st)) ∧ Below w.heap.size w w' from by rw [hLB]; exact (HC v (by omega) (by omega) w).out)
            rw [← hLB] at Hfq hlb
            have hwB : IntKind.i64.wrap (LB + 2 + x.c.st + 4 + s) = LB + 2 + x.c.st + 4 + s := IntWalk.i64_in _ (by omega)
            have hwA : IntKind.i64.wrap (LB + 2 + x.c.st + 4) = LB + 2 + x.c.st + 4 := IntWalk.i64_in _ (by omega)
            have HWd := fun w => Lib.hid (rWord_yes ev gv (by omega) (by omega) (by omega) (by omega) w)
            have Hnews := fun w' : World => Lib.hid (news_at w' [.int .i64 y0, .int .i64 (LB + 2 + x.c.st + 4 + s), .int .i64 (sg (pmk ev gv))] 83 _ rfl)
            clear hLB HA HL HC HLB Hpk Hp0 Hp1 Hp2 Hpl Hall
            go_wp2_with fail
            refine (HWd _).out.mono ?_
            rintro e w9 ⟨rfl, rfl⟩
            go_wp2_with fail
            generalize wr.heap.size = PB at *
            generalize World.alloc wr _ = w5 at *
            have hO := H3.out.swap.drew
            clear H3
            go_region_law (first | (refine step_append_row rfl (.tmp 87) (.tmp 99) 29 rfl 83 i0 _ Tryz.underlying29 hi0 hz0 hz1 hz2 rfl (by decide) (by simp [Act.eval]) (Own.alloc hM _) ⟨w6.heap.size, 0, none⟩ 1 1 [.int .i64 y0, .int .i64 (LB + 2 + x.c.st + 4 + s), .int .i64 (sg (pmk ev gv))] (by simp [Act.eval]) rfl (Hnews _).out (by simp [Value.oneCell']) l1 l2 ?_; intro v' w3 hR hg hn2; obtain ⟨p', cp', rfl⟩ := row_slice hR; clear hg hn2) | (go_simp; go_at_call 59; with_reducible refine Calls.mono (Hid.out (Hc _)) ?_; rintro e w6 ⟨rfl, hB⟩; have hM := Own.below hO hB; obtain ⟨d0, d1, d2, d3, d4, d5, d6, d7, d8, d9, d10, d11, d12, d13⟩ := akCells hM.p2; obtain ⟨e0, e1, e2⟩ := pkCells3 hM.swap))
            all_goals
              have hR2 : Own W NoF (row (.slice p' (k + 1) cp') 83 3 (k + 1) (pkC (P.take (k + 1))) :: blk B (akO x (.slice pp x.c.ps.length cp) (.slice pl x.c.ls.length cl) vb va (.slice (some ⟨b3, o3, none⟩) x.l.length ck)) :: L) w3 := by
                rw [Hnx.out, Hfq]
                have hc : ∀ (l : List Pk) (a b c : Int), pkC (l ++ [⟨a, b, c⟩]) = pkC l ++ [.int .i64 a, .int .i64 b, .int .i64 c] := fun l a b c => by simp [pkC, Pk.cells]
                rw [hc]
                exact hR.under fun _ _ h => h.drop
              have HR := Lib.hid hR2
              clear hR hR2 hM hO Hfq
              go_wp2_with fail
              go_roundw
              case rel => exact ⟨k + 1, by omega, by go_num, HR.out⟩
              case measure => simp [intOf]; omega
    · obtain rfl : k = x.l.length := by omega
      have HO2 := Lib.hid (hO.under fun _ _ h => h.drop)
      go_wp2_with fail
      go_ret
      exact ⟨_, rfl, HO2.out⟩
end Go.Proofs.YtjfjjmlocgmicaaGreat
end
section
namespace Go.Proofs.YtjfjjmlocgmicaaGreat
open Go.ChangeShapes Go.WideShapes Go.ChangeAt Go.RowKit Go.Shelf
set_option linter.unusedVariables false
set_option maxRecDepth 100000
variable {w0 w w' : World} {F0 : Nat → Prop} {L : List Asn} {T : TypeId} {m : Nat} {ws : List Int} {lg : List Acc}
theorem Own.q2 {A B C : Asn} (h : Own w0 F0 (A :: B :: C :: L) w) : Own w0 F0 (C :: A :: B :: L) w := (h.under fun _ _ h => h.swap).swap
end Go.Proofs.YtjfjjmlocgmicaaGreat
end
section
namespace Go.Proofs.YtjfjjmlocgmicaaGreat
open Go.RowKit
set_option linter.unusedVariables false
theorem wpAnyH_takeD {P : Program} {ops : Array Oper} {Q : Exit → Act → World → Prop} {md : Region.Mode} {S : World → Prop} {i : Nat} {d : Nat} {oi : Oper} {v : Value} {fuel : Nat} {listed : Array Bool} {a : Act} {w : World} (hi : ops[i]? = some oi) (hd : oi.dst = some d)
    (hs : Region.noSelect ops = true) (hf : Region.free md ops listed i = true) (hr : (Region.ready md ops listed).contains i = true)
    (hQ : ∀ c a w, Q (.panic c) (a.put oi.dst v) w → Q (.panic c) a w) (hy : YieldsIf P ops S oi v a) (hS : S w)
    (h : wpAnyH P md ops Q S fuel (listed.setIfInBounds i true) { a with tmps := a.tmps.setIfInBounds d v } w) : wpAnyH P md ops Q S (fuel + 1) listed a w :=
  wpAnyH_take hi hs hf hr hQ hy hS (by unfold Act.put; rw [hd]; exact h)
end Go.Proofs.YtjfjjmlocgmicaaGreat
end
section
namespace Go.Proofs.YtjfjjmlocgmicaaGreat
open Go.ChangeShapes Go.WideShapes Go.ChangeAt Go.RowKit Go.Shelf
set_option linter.unusedVariables false
set_option linter.unusedSimpArgs false
set_option maxRecDepth 100000
variable {w0 w w' W : World} {F0 : Nat → Prop} {L : List Asn} {T : TypeId} {m : Nat} {ws : List Int} {lg lg0 : List Acc} {c : Cf} {B : Int} {pp pl : Option Addr} {cp cl : Nat}
theorem leftP_U (u : Nat) : leftP (avN c u) (lwN (avN c u)) c.st.toNat ws = leftU c u ws := by
  unfold leftP leftU
  rw [sK_congr (f := fun i => ws.getD (lwN (avN c u) i) 0) (g := fun i => ws.getD (leN c u i) 0) _ (fun j _ => by show ws.getD (lwN (avN c u) j) 0 = ws.getD (leN c u j) 0; rw [show lwN (avN c u) j = leN c u j by unfold lwN avN leN; omega])]
theorem left_side (hr : c.Rt) (hB : B ≤ 1000000000000000) (hw : DW c B ws) {u : Nat} (hu : u < c.ps.length) : (avN c u + c.st.toNat < ws.length ∧ ws.length ≤ 1000000) ∧ ∀ k, k ≤ c.st.toNat → 0 ≤ ws.getD (avN c u + k) 0 ∧ ws.getD (avN c u + k) 0 ≤ 1125899906842624 := by
  have hn := hw.node u hu
  have hlt := limN_lt c hu
  have hl1 := hw.len
  have hsz := sizeN_bd hr
  have hle : 0 ≤ c.le ∧ c.le ≤ 1048576 := hr.le
  refine ⟨⟨by rw [hl1]; unfold avN sizeN; omega, by omega⟩, fun k hk => ?_⟩
  rcases (show k = 0 ∨ ∃ j, k = j + 1 from by cases k with | zero => exact Or.inl rfl | succ j => exact Or.inr ⟨j, rfl⟩) with q | ⟨j, q⟩
  · subst q; have := hn.av; rw [Nat.add_zero]; omega
  · subst q; have := hn.le j (show j < c.st.toNat by omega); rw [show avN c u + (j + 1) = leN c u j by unfold avN leN; omega]; omega
theorem uLeft_any (hr : c.Rt) (hB : B ≤ 1000000000000000) (hw : DW c B ws) (u : Nat) (hu : u < c.ps.length) (h : Own w0 F0 (memA T m ws lg :: L) w) :
    Calls Tryz.prog 25 #[.pointer (some ⟨m, 0, none⟩), cfV c (.slice pp c.ps.length cp) (.slice pl c.ls.length cl), .int .i64 u] w fun e w' => e = .returned (.int .i64 (leftU c u ws)) ∧ Below w.heap.size w w' := by
  obtain ⟨⟨h1, h2⟩, h3⟩ := left_side hr hB hw hu
  have hn12 := hr.n1
  have h := Left_any (pp := pp) (np := c.ps.length) (cp := cp) (pl := pl) (nl := c.ls.length) (cl := cl) c hr.sm (u : Int) (by omega) (by omega) (avN c u) c.st.toNat (by rw [limN_eq hr.sm]; unfold avN; push_cast; rfl) (st_nat hr).1 h1 h2 h3 h
  rw [leftP_U] at h
  exact h
theorem uRLeft_any {vr : Value} (hr : c.Rt) (hB : B ≤ 1000000000000000) (hw : DW c B ws) (u : Nat) (hu : u < c.ps.length) (hv : IntsAt w .i64 vr ws) :
    Calls Tryz.prog 35 #[vr, cfV c (.slice pp c.ps.length cp) (.slice pl c.ls.length cl), .int .i64 u] w fun e w' => e = .returned (.int .i64 (leftU c u ws)) ∧ Below w.heap.size w w' := by
  obtain ⟨⟨h1, h2⟩, h3⟩ := left_side hr hB hw hu
  have hn12 := hr.n1
  have h := rLeft_any (pp := pp) (np := c.ps.length) (cp := cp) (pl := pl) (nl := c.ls.length) (cl := cl) c hr.sm (u : Int) (by omega) (by omega) (avN c u) c.st.toNat (by rw [limN_eq hr.sm]; unfold avN; push_cast; rfl) (st_nat hr).1 h1 h2 h3 hv
  rw [leftP_U] at h
  exact h
theorem uCtr_any (hr : c.Rt) (u : Nat) (hu : u < c.ps.length) (w : World) :
    Calls Tryz.prog 27 #[cfV c (.slice pp c.ps.length cp) (.slice pl c.ls.length cl), .int .i64 u] w fun e w' => e = .returned (.int .i64 (ctN c u)) ∧ Below w.heap.size w w' := by
  have hn12 := hr.n1
  have h := Counter_q (pp := pp) (np := c.ps.length) (cp := cp) (pl := pl) (nl := c.ls.length) (cl := cl) c hr.sm (u : Int) (by omega) (by omega) w
  rw [limN_eq hr.sm, (st_nat hr).1] at h; unfold ctN; push_cast; push_cast at h; exact h
theorem uSum_any (hr : c.Rt) (hw : DW c B ws) (u : Nat) (hu : u < c.ps.length) (h : Own w0 F0 (memA T m ws lg :: L) w) :
    Calls Tryz.prog 26 #[.pointer (some ⟨m, 0, none⟩), .int .i64 (ctN c u), .int .i64 c.st] w fun e w' => e = .returned (.int .i64 (wrap64 (sumZ (ctP c u 0) ws))) ∧ Below w.heap.size w w' := by
  have st := st_nat hr
  have hlt := limN_lt c hu
  have hl1 := hw.len
  have hsz := sizeN_bd hr
  have h := addSum_b (ctP c u 0) c.st.toNat st.1 st.2.1 st.2.2 (by show ctN c u ≤ 1000; unfold ctN; unfold sizeN at hsz; omega) (by show ctN c u + 4 + _ ≤ _; rw [hl1]; unfold ctN sizeN; omega) (by omega) hw.wf h
  rw [← st.1] at h
  exact h
theorem rel_alone_play {vp vl : Value} (g : Nat) (p : RP) (B0 : Int) (hB0 : B0 ≤ 10000000000000) (hvp : IntsAt W .i64 vp p.c.ps) (hvl : IntsAt W .i64 vl p.c.ls) (hp : p.Ok) (hw : DW p.c B0 ws) (hbd : Liv p ws → BdOk p.c (ws.getD (p.tk + 1) 0)) (hlg : lg0.length ≤ 900000)
    (h : Own W NoF (relA vp vl g p s0R :: memA 107 m ws lg0 :: L) w) :
    Calls Tryz.prog 16 #[.pointer (some ⟨m, 0, none⟩), .iface 44 (.pointer (some ⟨g, 0, none⟩)), .slice none 0 0, .int .i64 3000] w fun e w' =>
      ∃ k s' ws' lg', e = .returned (.tuple #[.int .i64 (k : Nat), .bool true]) ∧ k ≤ 100 ∧ lg'.length ≤ 100 ∧ RI p B0 ws 100 k s' ws' lg' ∧ s'.ph = 6 ∧ Alone13 p ws k s' ws' ∧ Own W NoF (relA vp vl g p s' :: memA 107 m ws' (lg0 ++ lg') :: L) w' := by
  have h1 := Rel_play g m p B0 hB0 (.slice none 0 0) ws lg0 [] 3000 (by simp) (Or.inl ⟨rfl, rfl⟩) (by decide) hvp hvl hp (fun t B ws _ h => by rw [pokesAt_nil]; exact h) (nil_still _) hw hbd hlg h
  obtain ⟨k, s', ws', lg', e, hk, hI, h6, hA⟩ := release_alone (M := relM vp vl g p) (fun _ _ _ => rfl) hp hB0 hw hbd 3000 (by decide) (by decide)
  rw [show (3000 : Int).toNat = 3000 from rfl, show lg0 = lg0 ++ [] by simp, playF_lgR (p := p) (fun _ _ _ => rfl), e] at h1
  refine h1.mono ?_
  rintro en w' ⟨rfl, hO⟩
  refine ⟨k, s', ws', lg', rfl, hk, by rw [hI.len]; exact hk, hI, h6, hA, ?_⟩
  simp only [List.append_nil] at hO
  exact hO
end Go.Proofs.YtjfjjmlocgmicaaGreat
end
section
namespace Go.Proofs.YtjfjjmlocgmicaaGreat
open Go.RowKit
set_option linter.unusedVariables false
variable {p : DP} {s : DS} {ws ws' : List Int} {B : Int}
theorem tnW_le (a x : Int) : pver (tnW a x) ≤ pver a + 1 := by
  have := pver_bd a
  rw [tn_ver]; omega
theorem adm_ver (hp : p.Ok) (h : AdmF p B ws s ws') (t : Nat) (ht : t < p.c.ti.toNat) : pver (ws'.getD (tkN p.c t) 0) ≤ pver (ws.getD (tkN p.c t) 0) + 2 := by
  have hti := ti_nat hp.rt
  have hhi : ∀ t, limN p.c p.c.ps.length ≤ tkN p.c t := fun t => by unfold tkN; omega
  rcases first_free p.cp ws with hn | ⟨k, hk, hf, hn⟩
  · obtain ⟨-, -, -, d⟩ := h.alone.none hn
    rw [d]; omega
  · have hct : ∀ x, limN p.c p.c.ps.length ≤ x → ∀ u, u < p.c.ps.length → x < limN p.c u + 1 ∨ ctN p.c u ≤ x := fun x hx u hu => Or.inr (by have := limN_lt p.c hu; unfold ctN; omega)
    rcases least_or (fun i => RefP p ws i) p.len with hq | ⟨i, hi, hi2, hq⟩
    · obtain ⟨e0, e1, -, e3, -⟩ := h.alone.good k hk hf hn hq
      rcases h.oth _ (hhi t) with q | ⟨q1, q2, q3⟩
      · rw [q]; omega
      · obtain ⟨B', hok⟩ := h.ok
        have hst : t = s.cs.n := by rcases q3 with q3 | q3 <;> (unfold tkN at q3; omega)
        have hs6 := hok.six h.shut
        have hF : p.cp.tic k < p.c.ti.toNat := tic_lt (DP.cp_ok hp) k
        have hkn : s.cs.n = p.cp.tic k := by
          rcases hs6 with ⟨g1, -⟩ | ⟨g1, -⟩ | ⟨-, -, -, -, g2⟩
          · omega
          · omega
          · rw [e1] at g2
            have hd1 : hdB (p.cp.tic k : Nat) = true := decide_eq_true (by omega)
            have hd2 : hdB (s.cs.n : Nat) = true := decide_eq_true (by omega)
            have n1 := (hd_nm (p.cp.tic k : Nat) (tnW (tnW (ws.getD (tkN p.c (p.cp.tic k)) 0) 1) 2) hd1).2.1
            have n2 := (hd_nm (s.cs.n : Nat) s.lv hd2).2.1
            rw [g2, n2] at n1
            omega
        rw [hst, hkn, e3]
        have h1 := tnW_le (tnW (ws.getD (tkN p.c (p.cp.tic k)) 0) 1) 2
        have h2 := tnW_le (ws.getD (tkN p.c (p.cp.tic k)) 0) 1
        omega
    · obtain ⟨e0, -, -, e3⟩ := h.alone.over k hk hf hn i hi hi2 hq
      rw [e3 _ (hct _ (hhi t))]
      split
      · rename_i e
        rw [e]
        have h1 := tnW_le (tnW (ws.getD (tkN p.c (p.cp.tic k)) 0) 1) 0
        have h2 := tnW_le (ws.getD (tkN p.c (p.cp.tic k)) 0) 1
        omega
      · omega
theorem wr_ver {x : Ak} {l : List Int} (hr : x.c.Rt) (hx : x.Wf) : ∀ k : Nat, k ≤ 4 → ∀ t, t < x.c.ti.toNat → pver ((wdR x l k).getD (tkN x.c t) 0) ≤ 1 + 2 * k
  | 0, _, t, ht => by
    rw [wdR, akW_tk x t ht]
    split <;> decide +kernel
  | k + 1, hk, t, ht => by
    obtain ⟨ts, h⟩ := wr_any (l := l) hr hx k (by omega)
    have hf := adm_facts (p := adP x l k) (adP_ok hr (by omega)) (by omega) h.w
    have h1 := adm_ver (adP_ok (l := l) hr (by omega)) hf t ht
    have h2 := wr_ver (l := l) hr hx k (by omega) t ht
    rw [wdR]
    have e : (adP x l k).c = x.c := rfl
    rw [e] at h1
    omega
end Go.Proofs.YtjfjjmlocgmicaaGreat
end
