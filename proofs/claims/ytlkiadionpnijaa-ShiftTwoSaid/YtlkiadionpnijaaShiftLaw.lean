/- The functions of breadlinelaw09: words, pokes, added. Written by tools/gen_shiftlaw.py. -/
import Derived.Test.YtlkiadionpnijaaPoolLaw2
import Derived.Test.YtlkiadionpnijaaShiftMath2
import Derived.Test.YtlkiadionpnijaaPokes
import Derived.Test.YtlkiadionpnijaaPlay
import Derived.Deep.RegionLaw
import Derived.Deep.RegionHeld3
namespace Go.Proofs.Ytlkiadionpnijaa
open Go.ChangeShapes Go.WideShapes Go.ChangeAt Go.RowKit Go.Shelf
set_option linter.unusedVariables false
set_option linter.unusedSimpArgs false
set_option maxRecDepth 100000
variable {w0 w w' W : World} {F0 : Nat → Prop} {L : List Asn} {ws : List Int} {lg : List Acc}
def pokeS (x : Po) (q : Pk) : Pk :=
  if q.w % 2 = 0 then ⟨q.at_, (x.b : Int) + 1, (if q.x < 0 then 0 else q.x) % 4294967296⟩
  else ⟨q.at_, (x.b : Int), (if q.x < 0 then 0 else q.x) % 4294967296⟩
def poS (x : Po) : List Pk := x.l.map (pokeS x)
theorem poS_len (x : Po) : (poS x).length = x.l.length := by simp [poS]
theorem poS_take (x : Po) (k : Nat) (hk : k < x.l.length) : (poS x).take (k + 1) = (poS x).take k ++ [pokeS x (x.l.getD k default)] := by
  have h : k < (poS x).length := by rw [poS_len]; exact hk
  rw [List.take_add_one, List.getElem?_eq_getElem h]
  simp [poS, List.getD, hk]
theorem pkCells9 {b : Nat} {y0 y1 y2 : Int} (h : Own w0 F0 (blk b (.cells #[.int .i64 y0, .int .i64 y1, .int .i64 y2] 62 (0, 0)) :: L) w) :
    w.cell? ⟨b, 0, none⟩ = some (.int .i64 y0) ∧ w.cell? ⟨b, 1, none⟩ = some (.int .i64 y1) ∧ w.cell? ⟨b, 2, none⟩ = some (.int .i64 y2) :=
  ⟨h.cell (i := 0) rfl, h.cell (i := 1) rfl, h.cell (i := 2) rfl⟩
set_option maxHeartbeats 8000000 in
theorem sPokes_any {x : Po} {vp vl ve vk : Value} (H : PoAt W x vp vl ve vk) (hg : GoodP x) (h : Own W NoF L w) :
    Calls Try.prog 17 #[poV x vp vl ve vk] w (RetRow W NoF L 62 3 (poS x).length (pkC (poS x))) := by
  have hr := hg.rt
  obtain ⟨pp, cp, rfl⟩ := H.p.slice
  obtain ⟨pl, cl, rfl⟩ := H.l.slice
  obtain ⟨pk, ck, rfl⟩ := PksAt.slice H.k
  have hb := Po.b_eq hr
  have hin := Po.b_in hr
  have hv := Po.v_bd hr
  have n1 := hr.n1
  have hst := hr.sm
  have h1 := h.new (poO x (.slice pp x.c.ps.length cp) (.slice pl x.c.ls.length cl) ve (.slice pk x.l.length ck))
  have HO := fun w' hs => Lib.hid (pOf_any (w := w') (H.stp hs) hr)
  have HA := fun w => Lib.hid (rAvail_q (pp := pp) (np := x.c.ps.length) (cp := cp) (pl := pl) (nl := x.c.ls.length) (cl := cl) x.c hst x.v hv.1 (by omega) w)
  have HL := fun w => Lib.hid (rLimit_q (pp := pp) (np := x.c.ps.length) (cp := cp) (pl := pl) (nl := x.c.ls.length) (cl := cl) x.c hst x.v hv.1 (by omega) w)
  rw [hb] at HA HL
  have HK := Lib.hid H.k
  have HI := Lib.hid H.wf.l
  have hl40 := hg.l
  have Hpk := Lib.hid (show ∀ q, pokeS x q = if q.w % 2 = 0 then ⟨q.at_, (x.b : Int) + 1, (if q.x < 0 then 0 else q.x) % 4294967296⟩ else ⟨q.at_, (x.b : Int), (if q.x < 0 then 0 else q.x) % 4294967296⟩ from fun _ => rfl)
  have Htk := Lib.hid (poS_take x)
  have Hpl := Lib.hid (poS_len x)
  have Hall := Lib.hid (show poS x = (poS x).take x.l.length by rw [← poS_len, List.take_length])
  rw [Hpl.out, Hall.out]
  generalize poS x = P at *
  generalize pokeS x = fP at *
  generalize x.b = b at *
  generalize x.v = v at *
  generalize x.k = kk at *
  generalize x.s = ss at *
  generalize sizeN x.c = N at *
  have H1 := Lib.hid h1
  have hB1 := h1.toBelow
  obtain ⟨i0, hi0, hz0, hz1, hz2⟩ := info_parts Try.info_pk
  unfold poV at HO ⊢
  clear h h1 hr H hg hb hst
  go_enter Try.func17, Try.ntmps17
  obtain ⟨d0, d1, d2, d3, d4, d5, d6, d7, d8, d9, d10, d11, d12, d13⟩ := poCells H1.out
  go_wp2_with fail
  refine (HO _ hB1).out.mono ?_
  rintro e w1 ⟨rfl, hB⟩
  have h2 := H1.out.below hB
  obtain ⟨B, hBd⟩ : ∃ B, B = w.heap.size := ⟨_, rfl⟩
  rw [← hBd] at h2 ⊢
  clear hB hB1 H1 HO d0 d1 d2 d3 d4 d5 d6 d7 d8 d9 d10 d11 d12 d13 hBd
  have H2 := Lib.hid (show Own W NoF (row (.slice none 0 0) 62 3 0 [] :: blk B (poO x (.slice pp x.c.ps.length cp) (.slice pl x.c.ls.length cl) ve (.slice pk x.l.length ck)) :: L) w1 from h2.rowNil)
  clear h2
  go_wp2_with fail
  go_loopw [6, 7, 8, 9] (fun v6 v7 v8 v9 wr => ∃ k : Nat, k ≤ x.l.length ∧ v7 = .int .i64 k ∧ Own W NoF (row v6 62 3 k (pkC (P.take k)) :: blk B (poO x (.slice pp x.c.ps.length cp) (.slice pl x.c.ls.length cl) ve (.slice pk x.l.length ck)) :: L) wr) (fun v6 v7 v8 v9 _ => x.l.length - (intOf v7).toNat)
  case atStart => exact ⟨0, Nat.zero_le _, rfl, by simpa [pkC] using H2.out⟩
  case round =>
    obtain ⟨k, hk, rfl, hO⟩ := hrel
    clear H2
    obtain ⟨po, co, rfl⟩ := row_slice hO
    obtain ⟨d0, d1, d2, d3, d4, d5, d6, d7, d8, d9, d10, d11, d12, d13⟩ := poCells hO.swap
    by_cases hlt : k < x.l.length
    · obtain ⟨b3, o3, e3, hb3, hc3⟩ := (RowAt.below HK.out hO.toBelow).at (by rw [pkC_len]; omega) (by omega)
      have Hnx := Lib.hid (Htk.out k hlt)
      have hIq := HI.out (x.l.getD k default) (by simp [List.getD, hlt])
      obtain ⟨q, hq⟩ : ∃ q, q = x.l.getD k default := ⟨_, rfl⟩
      have e := fun i hi => pkC_get x.l k i hlt hi
      rw [← hq] at e Hnx hIq
      have Hfq := Lib.hid (Hpk.out q)
      obtain ⟨y0, y1, y2⟩ := q
      simp only at Hfq hIq
      obtain ⟨I0, I1, I2⟩ := hIq
      unfold I64 at I0 I1 I2
      have x0 : wr.cell? ⟨b3, o3 + k * 3, none⟩ = some (.int .i64 y0) := hc3 (k * 3 + 0) _ (e 0 (by omega))
      have x1 : wr.cell? ⟨b3, o3 + k * 3 + 1, none⟩ = some (.int .i64 y1) := hc3 (k * 3 + 1) _ (e 1 (by omega))
      have x2 : wr.cell? ⟨b3, o3 + k * 3 + 2, none⟩ = some (.int .i64 y2) := hc3 (k * 3 + 2) _ (e 2 (by omega))
      clear hc3 e hq HK HI Htk
      subst e3
      have h3 := hO.new (.cells #[.int .i64 y0, .int .i64 y1, .int .i64 y2] 62)
      have H3 := Lib.hid h3
      obtain ⟨e0, e1, e2⟩ := pkCells9 h3
      have h5 := h3.p2
      have hkl : (k : Int) < (x.l.length : Int) := by omega
      clear hO
      have ht : y1.tmod 2 = 0 ↔ y1 % 2 = 0 := ⟨fun h => Int.emod_eq_zero_of_dvd (Int.dvd_of_tmod_eq_zero h), fun h => Int.tmod_eq_zero_of_dvd (Int.dvd_of_emod_eq_zero h)⟩
      obtain ⟨n, hn⟩ : ∃ n, n = if y2 < 0 then 0 else y2 := ⟨_, rfl⟩
      rw [← hn] at Hfq
      have n0 : 0 ≤ n := by rw [hn]; split <;> omega
      have nm : n ≤ 9223372036854775807 := by rw [hn]; split <;> omega
      have m1 : n.tmod 4294967296 = n % 4294967296 := Int.tmod_eq_emod_of_nonneg n0
      obtain ⟨d0, d1, d2, d3, d4, d5, d6, d7, d8, d9, d10, d11, d12, d13⟩ := poCells h5
      clear h3 h5
      by_cases hy2 : y2 < 0
      · rw [if_pos hy2] at hn
        have mx1 : max y2 0 = 0 := Int.max_eq_right (by omega)
        have mx2 : decide (y2 < 0) = true := by simp; omega
        have mx3 : decide (0 < y2) = false := by simp; omega
        by_cases hy1 : y1 % 2 = 0
        · have g1 : y1.tmod 2 = 0 := ht.2 hy1
          rw [if_pos hy1] at Hfq
          subst hn
          clear ht hy1 I0 I1 I2
          have g1b : (y1.tmod 2 == 0) = true := by rw [g1]; rfl
          go_wp2_with fail
          generalize wr.heap.size = PB at *
          generalize World.alloc wr _ = w5 at *
          have hO := H3.out.swap.drew
          have Hnews := fun w' : World => Lib.hid (news_at w' [.int .i64 y0, .int .i64 ((b : Int) + 1), .int .i64 (0 % 4294967296)] 62 _ rfl)
          have l1 : k + 1 ≤ maxLen := by unfold maxLen; omega
          have l2 : (k + 1) * 24 ≤ 140737488355328 := by omega
          clear H3 Hpk Hpl Hall
          go_region_law (first | (refine step_append_row rfl (.tmp 36) (.tmp 45) 27 rfl 62 i0 _ Try.underlying27 hi0 hz0 hz1 hz2 rfl (by decide) (by simp [Act.eval]) (Own.alloc hM _) ⟨w6.heap.size, 0, none⟩ 1 1 [.int .i64 y0, .int .i64 ((b : Int) + 1), .int .i64 (0 % 4294967296)] (by simp [Act.eval]) rfl (Hnews _).out (by simp [Value.oneCell']) l1 l2 ?_; intro v' w3 hR hg hn2; obtain ⟨p', cp', rfl⟩ := row_slice hR; clear hg hn2) | (go_simp; go_at_call 31; with_reducible refine Calls.mono (Hid.out (HA _)) ?_; rintro e w6 ⟨rfl, hB⟩; have hM := Own.below hO hB; obtain ⟨d0, d1, d2, d3, d4, d5, d6, d7, d8, d9, d10, d11, d12, d13⟩ := poCells hM.p2; obtain ⟨e0, e1, e2⟩ := pkCells9 hM.swap))
          all_goals
            have hR2 : Own W NoF (row (.slice p' (k + 1) cp') 62 3 (k + 1) (pkC (P.take (k + 1))) :: blk B (poO x (.slice pp x.c.ps.length cp) (.slice pl x.c.ls.length cl) ve (.slice (some ⟨b3, o3, none⟩) x.l.length ck)) :: L) w3 := by
              rw [Hnx.out, Hfq.out]
              have hc : ∀ (l : List Pk) (a b c : Int), pkC (l ++ [⟨a, b, c⟩]) = pkC l ++ [.int .i64 a, .int .i64 b, .int .i64 c] := fun l a b c => by simp [pkC, Pk.cells]
              rw [hc]
              exact hR.under fun _ _ h => h.drop
            have HR := Lib.hid hR2
            clear hR hR2 hM hO
            go_wp2_with fail
            go_roundw
            case rel => exact ⟨k + 1, by omega, by go_num, HR.out⟩
            case measure => simp [intOf]; omega
        · have g1 : ¬ y1.tmod 2 = 0 := fun h => hy1 (ht.1 h)
          rw [if_neg hy1] at Hfq
          subst hn
          clear ht hy1 I0 I1 I2
          have g1b : (y1.tmod 2 == 0) = false := by rw [beq_eq_false_iff_ne]; exact g1
          go_wp2_with fail
          generalize wr.heap.size = PB at *
          generalize World.alloc wr _ = w5 at *
          have hO := H3.out.swap.drew
          have Hnews := fun w' : World => Lib.hid (news_at w' [.int .i64 y0, .int .i64 ((b : Int)), .int .i64 (0 % 4294967296)] 62 _ rfl)
          have l1 : k + 1 ≤ maxLen := by unfold maxLen; omega
          have l2 : (k + 1) * 24 ≤ 140737488355328 := by omega
          clear H3 Hpk Hpl Hall
          go_region_law (first | (refine step_append_row rfl (.tmp 47) (.tmp 56) 27 rfl 62 i0 _ Try.underlying27 hi0 hz0 hz1 hz2 rfl (by decide) (by simp [Act.eval]) (Own.alloc hM _) ⟨w6.heap.size, 0, none⟩ 1 1 [.int .i64 y0, .int .i64 ((b : Int)), .int .i64 (0 % 4294967296)] (by simp [Act.eval]) rfl (Hnews _).out (by simp [Value.oneCell']) l1 l2 ?_; intro v' w3 hR hg hn2; obtain ⟨p', cp', rfl⟩ := row_slice hR; clear hg hn2) | (go_simp; go_at_call 30; with_reducible refine Calls.mono (Hid.out (HL _)) ?_; rintro e w6 ⟨rfl, hB⟩; have hM := Own.below hO hB; obtain ⟨d0, d1, d2, d3, d4, d5, d6, d7, d8, d9, d10, d11, d12, d13⟩ := poCells hM.p2; obtain ⟨e0, e1, e2⟩ := pkCells9 hM.swap))
          all_goals
            have hR2 : Own W NoF (row (.slice p' (k + 1) cp') 62 3 (k + 1) (pkC (P.take (k + 1))) :: blk B (poO x (.slice pp x.c.ps.length cp) (.slice pl x.c.ls.length cl) ve (.slice (some ⟨b3, o3, none⟩) x.l.length ck)) :: L) w3 := by
              rw [Hnx.out, Hfq.out]
              have hc : ∀ (l : List Pk) (a b c : Int), pkC (l ++ [⟨a, b, c⟩]) = pkC l ++ [.int .i64 a, .int .i64 b, .int .i64 c] := fun l a b c => by simp [pkC, Pk.cells]
              rw [hc]
              exact hR.under fun _ _ h => h.drop
            have HR := Lib.hid hR2
            clear hR hR2 hM hO
            go_wp2_with fail
            go_roundw
            case rel => exact ⟨k + 1, by omega, by go_num, HR.out⟩
            case measure => simp [intOf]; omega
      · rw [if_neg hy2] at hn
        subst hn
        have mx1 : max n 0 = n := Int.max_eq_left (by omega)
        have mx2 : decide (n < 0) = false := by simp; omega
        by_cases hy1 : y1 % 2 = 0
        · have g1 : y1.tmod 2 = 0 := ht.2 hy1
          rw [if_pos hy1] at Hfq
          clear ht hy1 I0 I1 I2
          have g1b : (y1.tmod 2 == 0) = true := by rw [g1]; rfl
          go_wp2_with fail
          generalize wr.heap.size = PB at *
          generalize World.alloc wr _ = w5 at *
          have hO := H3.out.swap.drew
          have Hnews := fun w' : World => Lib.hid (news_at w' [.int .i64 y0, .int .i64 ((b : Int) + 1), .int .i64 (n % 4294967296)] 62 _ rfl)
          have l1 : k + 1 ≤ maxLen := by unfold maxLen; omega
          have l2 : (k + 1) * 24 ≤ 140737488355328 := by omega
          clear H3 Hpk Hpl Hall
          go_region_law (first | (refine step_append_row rfl (.tmp 36) (.tmp 45) 27 rfl 62 i0 _ Try.underlying27 hi0 hz0 hz1 hz2 rfl (by decide) (by simp [Act.eval]) (Own.alloc hM _) ⟨w6.heap.size, 0, none⟩ 1 1 [.int .i64 y0, .int .i64 ((b : Int) + 1), .int .i64 (n % 4294967296)] (by simp [Act.eval]) rfl (Hnews _).out (by simp [Value.oneCell']) l1 l2 ?_; intro v' w3 hR hg hn2; obtain ⟨p', cp', rfl⟩ := row_slice hR; clear hg hn2) | (go_simp; go_at_call 31; with_reducible refine Calls.mono (Hid.out (HA _)) ?_; rintro e w6 ⟨rfl, hB⟩; have hM := Own.below hO hB; obtain ⟨d0, d1, d2, d3, d4, d5, d6, d7, d8, d9, d10, d11, d12, d13⟩ := poCells hM.p2; obtain ⟨e0, e1, e2⟩ := pkCells9 hM.swap))
          all_goals
            have hR2 : Own W NoF (row (.slice p' (k + 1) cp') 62 3 (k + 1) (pkC (P.take (k + 1))) :: blk B (poO x (.slice pp x.c.ps.length cp) (.slice pl x.c.ls.length cl) ve (.slice (some ⟨b3, o3, none⟩) x.l.length ck)) :: L) w3 := by
              rw [Hnx.out, Hfq.out]
              have hc : ∀ (l : List Pk) (a b c : Int), pkC (l ++ [⟨a, b, c⟩]) = pkC l ++ [.int .i64 a, .int .i64 b, .int .i64 c] := fun l a b c => by simp [pkC, Pk.cells]
              rw [hc]
              exact hR.under fun _ _ h => h.drop
            have HR := Lib.hid hR2
            clear hR hR2 hM hO
            go_wp2_with fail
            go_roundw
            case rel => exact ⟨k + 1, by omega, by go_num, HR.out⟩
            case measure => simp [intOf]; omega
        · have g1 : ¬ y1.tmod 2 = 0 := fun h => hy1 (ht.1 h)
          rw [if_neg hy1] at Hfq
          clear ht hy1 I0 I1 I2
          have g1b : (y1.tmod 2 == 0) = false := by rw [beq_eq_false_iff_ne]; exact g1
          go_wp2_with fail
          generalize wr.heap.size = PB at *
          generalize World.alloc wr _ = w5 at *
          have hO := H3.out.swap.drew
          have Hnews := fun w' : World => Lib.hid (news_at w' [.int .i64 y0, .int .i64 ((b : Int)), .int .i64 (n % 4294967296)] 62 _ rfl)
          have l1 : k + 1 ≤ maxLen := by unfold maxLen; omega
          have l2 : (k + 1) * 24 ≤ 140737488355328 := by omega
          clear H3 Hpk Hpl Hall
          go_region_law (first | (refine step_append_row rfl (.tmp 47) (.tmp 56) 27 rfl 62 i0 _ Try.underlying27 hi0 hz0 hz1 hz2 rfl (by decide) (by simp [Act.eval]) (Own.alloc hM _) ⟨w6.heap.size, 0, none⟩ 1 1 [.int .i64 y0, .int .i64 ((b : Int)), .int .i64 (n % 4294967296)] (by simp [Act.eval]) rfl (Hnews _).out (by simp [Value.oneCell']) l1 l2 ?_; intro v' w3 hR hg hn2; obtain ⟨p', cp', rfl⟩ := row_slice hR; clear hg hn2) | (go_simp; go_at_call 30; with_reducible refine Calls.mono (Hid.out (HL _)) ?_; rintro e w6 ⟨rfl, hB⟩; have hM := Own.below hO hB; obtain ⟨d0, d1, d2, d3, d4, d5, d6, d7, d8, d9, d10, d11, d12, d13⟩ := poCells hM.p2; obtain ⟨e0, e1, e2⟩ := pkCells9 hM.swap))
          all_goals
            have hR2 : Own W NoF (row (.slice p' (k + 1) cp') 62 3 (k + 1) (pkC (P.take (k + 1))) :: blk B (poO x (.slice pp x.c.ps.length cp) (.slice pl x.c.ls.length cl) ve (.slice (some ⟨b3, o3, none⟩) x.l.length ck)) :: L) w3 := by
              rw [Hnx.out, Hfq.out]
              have hc : ∀ (l : List Pk) (a b c : Int), pkC (l ++ [⟨a, b, c⟩]) = pkC l ++ [.int .i64 a, .int .i64 b, .int .i64 c] := fun l a b c => by simp [pkC, Pk.cells]
              rw [hc]
              exact hR.under fun _ _ h => h.drop
            have HR := Lib.hid hR2
            clear hR hR2 hM hO
            go_wp2_with fail
            go_roundw
            case rel => exact ⟨k + 1, by omega, by go_num, HR.out⟩
            case measure => simp [intOf]; omega
    · obtain rfl : k = x.l.length := by omega
      have HO2 := Lib.hid (hO.under fun _ _ h => h.drop)
      go_wp2_with fail
      go_ret
      exact ⟨_, rfl, HO2.out⟩
theorem addW_take (wd : Nat) (l : List Acc) (k : Nat) (hk : k < l.length) : addW wd (l.take (k + 1)) = addW wd (l.take k) + if (l.getD k ⟨0, 0, 0, 0, false⟩).w = (wd : Int) then ownA (l.getD k ⟨0, 0, 0, 0, false⟩) else 0 := by
  rw [List.take_add_one, List.getElem?_eq_getElem hk]
  have : l.getD k ⟨0, 0, 0, 0, false⟩ = l[k] := by simp [List.getD, hk]
  rw [this]
  exact addW_app _ _ _
set_option maxHeartbeats 4000000 in
theorem sAdded_any {v : Value} (wd : Nat) (hn : lg.length ≤ 1000000) (hv : LogAt w v lg) :
    Calls Try.prog 25 #[v, .int .i64 wd] w fun e w' => e = .returned (.int .i64 (wrap64 (addW wd lg))) ∧ Drew w w' := by
  by_cases h0 : 0 < lg.length
  · obtain ⟨b, off, cap, rfl, hb⟩ := hv.at h0
    clear hv
    have Ht := Lib.hid (addW_take wd lg)
    have Hall := Lib.hid (show addW wd lg = addW wd (lg.take lg.length) by rw [List.take_length])
    have Hz := Lib.hid (show wrap64 (addW wd (lg.take 0)) = 0 by simp [addW, wrap64])
    rw [Hall.out]
    generalize lg.length = N at *
    have Hb := Lib.hid hb
    clear hb
    go_enter Try.func25, Try.ntmps25
    go_wp2_with fail
    go_loopw [5, 6] (fun v5 v6 wr => ∃ k : Nat, k ≤ N ∧ v5 = .int .i64 (wrap64 (addW wd (lg.take k))) ∧ v6 = .int .i64 k ∧ Drew w wr) (fun v5 v6 _ => N - (intOf v6).toNat)
    case atStart => exact ⟨0, Nat.zero_le _, by rw [Hz.out], rfl, Drew.refl w⟩
    case round =>
      obtain ⟨k, hk, rfl, rfl, hq⟩ := hrel
      by_cases hlt : k < N
      · have HTk := Lib.hid (Ht.out k hlt)
        obtain ⟨x, hx⟩ : ∃ x, x = lg.getD k ⟨0, 0, 0, 0, false⟩ := ⟨_, rfl⟩
        rw [← hx] at HTk
        obtain ⟨x0, x1, x2, x3, x4⟩ := x
        have b0 : wr.cell? ⟨b, off + k * 5, none⟩ = some (.int .i64 x0) := hq.cell (by have := Hb.out k 0 hlt (by omega); rw [← hx] at this; exact this)
        have b1 : wr.cell? ⟨b, off + k * 5 + 1, none⟩ = some (.int .i64 x1) := hq.cell (by have := Hb.out k 1 hlt (by omega); rw [← hx] at this; exact this)
        have b2 : wr.cell? ⟨b, off + k * 5 + 2, none⟩ = some (.int .i64 x2) := hq.cell (by have := Hb.out k 2 hlt (by omega); rw [← hx] at this; exact this)
        have b3 : wr.cell? ⟨b, off + k * 5 + 3, none⟩ = some (.int .i64 x3) := hq.cell (by have := Hb.out k 3 hlt (by omega); rw [← hx] at this; exact this)
        have b4 : wr.cell? ⟨b, off + k * 5 + 4, none⟩ = some (.bool x4) := hq.cell (by have := Hb.out k 4 hlt (by omega); rw [← hx] at this; exact this)
        have Hq := Lib.hid hq
        have hkN : (k : Int) < (N : Int) := by omega
        clear hx hq Hz Ht Hall
        generalize addW wd (lg.take k) = s at *
        simp only at HTk
        by_cases hw : x1 = (wd : Int)
        · subst hw
          by_cases h2 : x0 = 2
          · subst h2
            have hA := Lib.hid (show wrap64 (addW wd (lg.take (k + 1))) = wrap64 (wrap64 s + x2) by rw [HTk.out, wrap_in, if_pos rfl]; rfl)
            go_wp2_with fail
            go_roundw
            case rel => exact ⟨k + 1, by omega, by rw [hA.out], by go_num, Hq.out⟩
            case measure => simp [intOf]; omega
          · obtain ⟨g1, g2⟩ := beqz h2
            by_cases h3 : x0 = 3
            · subst h3
              cases x4 with
              | true =>
                have hA := Lib.hid (show wrap64 (addW wd (lg.take (k + 1))) = wrap64 (wrap64 (wrap64 s + x3) - x2) by rw [HTk.out, wrap_in2, if_pos rfl]; rfl)
                clear h2 g1 g2
                go_wp2_with fail
                go_quiet (fail)
                have Hq2 := Lib.hid (Hq.out.more nq)
                clear b0 b1 b2 b3 b4 Hq
                generalize World.drewN wr nq = w4 at *
                go_wp2_with fail
                go_roundw
                case rel => exact ⟨k + 1, by omega, by rw [hA.out], by go_num, Hq2.out⟩
                case measure => simp [intOf]; omega
              | false =>
                have hA := Lib.hid (show wrap64 (addW wd (lg.take (k + 1))) = wrap64 s by rw [HTk.out, if_pos rfl, show ownA ⟨3, (wd : Int), x2, x3, false⟩ = 0 from rfl, Int.add_zero])
                clear h2 g1 g2
                go_wp2_with fail
                go_roundw
                case rel => exact ⟨k + 1, by omega, by rw [hA.out], by go_num, Hq.out⟩
                case measure => simp [intOf]; omega
            · obtain ⟨g3, g4⟩ := beqz h3
              have hA := Lib.hid (show wrap64 (addW wd (lg.take (k + 1))) = wrap64 s by
                rw [HTk.out, if_pos rfl, show ownA ⟨x0, (wd : Int), x2, x3, x4⟩ = 0 by unfold ownA; rw [if_neg h2, if_neg (fun h => h3 h.1)], Int.add_zero])
              go_wp2_with fail
              go_roundw
              case rel => exact ⟨k + 1, by omega, by rw [hA.out], by go_num, Hq.out⟩
              case measure => simp [intOf]; omega
        · obtain ⟨g1, g2⟩ := beqz hw
          have hA := Lib.hid (show wrap64 (addW wd (lg.take (k + 1))) = wrap64 s by rw [HTk.out, if_neg hw, Int.add_zero])
          go_wp2_with fail
          go_roundw
          case rel => exact ⟨k + 1, by omega, by rw [hA.out], by go_num, Hq.out⟩
          case measure => simp [intOf]; omega
      · obtain rfl : k = N := by omega
        have Hq := Lib.hid hq
        clear hq
        go_wp2_with fail
        go_ret
        exact ⟨rfl, Hq.out⟩
  · obtain rfl : lg = [] := List.eq_nil_of_length_eq_zero (by omega)
    obtain ⟨p, cap, rfl⟩ : ∃ p cap, v = .slice p 0 cap := by
      rcases hv with ⟨_, h⟩ | ⟨h, _⟩
      · exact h
      · simp at h
    rw [show wrap64 (addW wd []) = 0 by simp [addW, wrap64]]
    clear hv
    go_enter Try.func25, Try.ntmps25
    go_wp2_with fail
    refine wp_loop_rounds 1 ?_
    rw [rounds_succ]
    go_wp2_with fail
    go_ret
    exact ⟨rfl, Drew.refl w⟩
theorem blk_set_row {e : TypeId} {gw cap N b : Nat} {y : Int} {cur : Array Value} {ws : List Int} (h : Own w0 F0 (blk gw (.cells (cur.setIfInBounds b (.int .i64 y)) e (0, 0)) :: L) w) (q1 : N ≤ cap) (q2 : cap ≤ maxLen) (q3 : cur.size = cap * 1) (q4 : cur.toList.take (N * 1) = intC ws) (hl : ws.length = N) :
    Own w0 F0 (row (.slice (some ⟨gw, 0, none⟩) N cap) e 1 N (intC (ws.set b y)) :: L) w := by
  refine h.blkRow q1 q2 (by simpa using q3) ?_ (by simp [intC, hl])
  rw [Array.toList_setIfInBounds, List.take_set, q4]
  simp [intC, List.map_set]
theorem cur_get {N b : Nat} {cur : Array Value} {ws : List Int} (q4 : cur.toList.take (N * 1) = intC ws) (hl : ws.length = N) (hb : b < N) : cur[b]? = some (.int .i64 (ws.getD b 0)) := by
  have h1 : (cur.toList.take (N * 1))[b]? = cur[b]? := by rw [List.getElem?_take, if_pos (by omega)]; simp
  rw [← h1, q4]
  simp [intC, hl, hb, List.getD]
def swW (x : Po) (lim : Int) (big : Bool) : List Int := (poW x (poR x)).set x.b (if big = true then 1099511627776 - lim % 100 else lim)
theorem swW_len (x : Po) (lim : Int) (big : Bool) : (swW x lim big).length = sizeN x.c := by unfold swW; rw [List.length_set]; exact poW_len x _
set_option maxHeartbeats 4000000 in
theorem sWords_any {x : Po} {vp vl ve vk : Value} (y : Int) (y0 : 0 ≤ y) (y1 : y ≤ 4294967295) (big : Bool) (H : PoAt W x vp vl ve vk) (hg : GoodP x) (h : Own W NoF L w) :
    Calls Try.prog 12 #[poV x vp vl ve vk, .int .u32 y, .bool big] w (RetRow W NoF L 3 1 (sizeN x.c) (intC (swW x y big))) := by
  have hr := hg.rt
  obtain ⟨pp, cp, rfl⟩ := H.p.slice
  obtain ⟨pl, cl, rfl⟩ := H.l.slice
  obtain ⟨pk, ck, rfl⟩ := PksAt.slice H.k
  have hb := Po.b_eq hr
  have hin := Po.b_in hr
  have hv := Po.v_bd hr
  have n1 := hr.n1
  have hst := hr.sm
  have h1 := h.new (poO x (.slice pp x.c.ps.length cp) (.slice pl x.c.ls.length cl) ve (.slice pk x.l.length ck))
  have HO := fun w' hs => Lib.hid (pOf_any (w := w') (H.stp hs) hr)
  have HWd := fun w L (h : Own W NoF L w) => Lib.hid (pWords_any H hg h)
  have HL := fun w => Lib.hid (rLimit_q (pp := pp) (np := x.c.ps.length) (cp := cp) (pl := pl) (nl := x.c.ls.length) (cl := cl) x.c hst x.v hv.1 (by omega) w)
  rw [hb] at HL
  have Hlen := Lib.hid (poW_len x (poR x))
  have HW := Lib.hid (show swW x y big = (poW x (poR x)).set x.b (if big = true then 1099511627776 - y % 100 else y) from rfl)
  generalize swW x y big = sw at *
  generalize poW x (poR x) = ws at *
  generalize x.b = b at *
  generalize x.v = v at *
  generalize x.k = kk at *
  generalize x.s = ss at *
  generalize sizeN x.c = N at *
  have H1 := Lib.hid h1
  have hB1 := h1.toBelow
  obtain ⟨i0, hi0, hz0, hz1, hz2⟩ := info_parts Try.info_int
  have m1 : y.tmod 100 = y % 100 := Int.tmod_eq_emod_of_nonneg y0
  have m2 : IntKind.i64.wrap y = y := IntWalk.i64_in _ (by omega)
  have m3 : IntKind.i64.wrap (1099511627776 - y % 100) = 1099511627776 - y % 100 := IntWalk.i64_in _ (by omega)
  have j1 : (b : Int) < (N : Int) := by omega
  have j2 : N ≤ 400 := by omega
  have j3 : 0 < N := by omega
  have j4 : b < N := by omega
  unfold poV at HO HWd ⊢
  clear h h1 hr H hg hb hst hin
  go_enter Try.func12, Try.ntmps12
  obtain ⟨d0, d1, d2, d3, d4, d5, d6, d7, d8, d9, d10, d11, d12, d13⟩ := poCells H1.out
  go_wp2_with fail
  refine (HO _ hB1).out.mono ?_
  rintro e w1 ⟨rfl, hB⟩
  have h2 := H1.out.below hB
  obtain ⟨B, hBd⟩ : ∃ B, B = w.heap.size := ⟨_, rfl⟩
  rw [← hBd] at h2 ⊢
  clear hB hB1 H1 HO d0 d1 d2 d3 d4 d5 d6 d7 d8 d9 d10 d11 d12 d13 hBd
  have h3 := (h2.new (.cells #[] 3)).blkRow (n := 0) (cap := 0) (size := 1) (xs := []) (Nat.le_refl _) (by decide) rfl rfl rfl
  obtain ⟨d0, d1, d2, d3, d4, d5, d6, d7, d8, d9, d10, d11, d12, d13⟩ := poCells h3.swap
  have HW2 := HWd _ _ h3
  clear h2 h3 HWd
  go_wp2_with fail
  refine HW2.out.mono ?_
  rintro e w2 ⟨vw, rfl, hO⟩
  clear HW2 d0 d1 d2 d3 d4 d5 d6 d7 d8 d9 d10 d11 d12 d13
  obtain ⟨ag, og, cg, rfl, hcg⟩ := (Own.intsAt (zs := ws) (by rw [Hlen.out]; exact hO)).at (by rw [Hlen.out]; omega)
  rw [Hlen.out] at hO ⊢
  have Hn := Lib.hid (show ∀ j u, (intC ws)[j]? = some u → w2.cell? (Addr.add ⟨ag, og, none⟩ j) = some u from fun j u hu => by
    have hj : j < ws.length := by have := (List.getElem?_eq_some_iff.1 hu).1; simpa [intC] using this
    rw [add_plain, hcg j hj]
    rw [intC_get _ _ hj] at hu; exact hu)
  have Hz := Lib.hid (show (intC ws).length = N * 1 by rw [intC_len, Hlen.out]; omega)
  have Ho := Lib.hid (intC_one ws)
  have b1 := Lib.hid (show 0 + N ≤ maxLen by unfold maxLen; omega)
  have b2 := Lib.hid (show (0 + N) * 8 ≤ 140737488355328 by omega)
  have HX := Lib.hid hO.swap
  clear hO hcg
  go_wp2_with (at_builtin; refine wpList_append_row rfl (.tmp 17) (.tmp 19) 22 rfl 3 i0 _ Try.underlying22 hi0 hz0 hz1 hz2 rfl (by decide) rfl HX.out ⟨ag, og, none⟩ N cg (intC ws) rfl Hz.out Hn.out Ho.out b1.out b2.out ?_; intro v' w3 hO hgr hn; rw [Nat.zero_add, List.nil_append] at hO; obtain ⟨gw, cw, cur, rfl, q1, q2, q3, q4, q5, hK⟩ := hO.rowBlk j3; clear hgr hn hO; obtain ⟨d0, d1, d2, d3, d4, d5, d6, d7, d8, d9, d10, d11, d12, d13⟩ := poCells hK.p2; have f1 : ∀ j, w3.frozen? ⟨gw, j, none⟩ = false := fun j => hK.unfrozen)
  refine (HL _).out.mono ?_
  rintro e w4 ⟨rfl, hB⟩
  have hK4 := hK.below hB
  have f2 : ∀ j, w4.frozen? ⟨gw, j, none⟩ = false := fun j => hK4.unfrozen
  have k1 := hK4.cell (cur_get q4 Hlen.out j4)
  have HS := Lib.hid (hK4.set b (.int .i64 y))
  have Q4 := Lib.hid q4
  clear d0 d1 d2 d3 d4 d5 d6 d7 d8 d9 d10 d11 d12 d13 HX hK hB f1 q4 q5 hK4
  cases big with
  | false =>
    go_wp2_with fail
    go_ret
    refine ⟨_, rfl, ?_⟩
    rw [HW.out]
    exact (blk_set_row HS.out q1 q2 q3 Q4.out Hlen.out).under fun _ _ h => h.drop.drop
  | true =>
    obtain ⟨d0, d1, d2, d3, d4, d5, d6, d7, d8, d9, d10, d11, d12, d13⟩ := poCells HS.out.p2
    go_wp2_with fail
    refine (HL _).out.mono ?_
    rintro e w6 ⟨rfl, hB⟩
    have hK6 := HS.out.below hB
    have f3 : ∀ j, w6.frozen? ⟨gw, j, none⟩ = false := fun j => hK6.unfrozen
    have k2 : w6.cell? ⟨gw, b, none⟩ = some (.int .i64 y) := hK6.cell (by have := cur_get Q4.out Hlen.out j4; have h := (Array.getElem?_eq_some_iff.1 this).1; simp [h])
    have HS2 := Lib.hid (hK6.set b (.int .i64 (1099511627776 - y % 100)))
    clear d0 d1 d2 d3 d4 d5 d6 d7 d8 d9 d10 d11 d12 d13 hB hK6 HS k1 f2
    go_wp2_with fail
    go_ret
    refine ⟨_, rfl, ?_⟩
    rw [HW.out]
    have h := HS2.out
    rw [Array.setIfInBounds_setIfInBounds] at h
    exact (blk_set_row h q1 q2 q3 Q4.out Hlen.out).under fun _ _ h => h.drop.drop
end Go.Proofs.Ytlkiadionpnijaa
