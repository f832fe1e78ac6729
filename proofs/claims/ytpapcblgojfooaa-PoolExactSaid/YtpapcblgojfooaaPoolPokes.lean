/- The pokes of breadlinelaw08's laws: those of the pool's words. Written by tools/gen_poolpokes.py. -/
import Derived.Test.YtpapcblgojfooaaPoolLaw
import Derived.Test.YtpapcblgojfooaaPokes
import Derived.Test.YtpapcblgojfooaaPlay
import Derived.Deep.RegionLaw
namespace Go.Proofs.Ytpapcblgojfooaa
open Go.ChangeShapes Go.WideShapes Go.ChangeAt Go.RowKit Go.Shelf
set_option linter.unusedVariables false
set_option linter.unusedSimpArgs false
set_option maxRecDepth 100000
variable {w0 w w' W : World} {F0 : Nat → Prop} {L : List Asn}
def pokeP (x : Po) (q : Pk) : Pk :=
  if q.w % 2 = 0 then ⟨q.at_, (x.b : Int) + 1, (if q.x < 0 then 0 else q.x) % 4294967296⟩
  else ⟨q.at_, (x.b : Int) + 2 + x.s, (if q.x < 0 then 0 else q.x) % (x.c.le + 1)⟩
def poP (x : Po) : List Pk := x.l.map (pokeP x)
theorem poP_len (x : Po) : (poP x).length = x.l.length := by simp [poP]
theorem poP_take (x : Po) (k : Nat) (hk : k < x.l.length) : (poP x).take (k + 1) = (poP x).take k ++ [pokeP x (x.l.getD k default)] := by
  have h : k < (poP x).length := by rw [poP_len]; exact hk
  rw [List.take_add_one, List.getElem?_eq_getElem h]
  simp [poP, List.getD, hk]
theorem pkCells3 {b : Nat} {y0 y1 y2 : Int} (h : Own w0 F0 (blk b (.cells #[.int .i64 y0, .int .i64 y1, .int .i64 y2] 66 (0, 0)) :: L) w) :
    w.cell? ⟨b, 0, none⟩ = some (.int .i64 y0) ∧ w.cell? ⟨b, 1, none⟩ = some (.int .i64 y1) ∧ w.cell? ⟨b, 2, none⟩ = some (.int .i64 y2) :=
  ⟨h.cell (i := 0) rfl, h.cell (i := 1) rfl, h.cell (i := 2) rfl⟩
set_option maxHeartbeats 8000000 in
theorem pPokes_any {x : Po} {vp vl ve vk : Value} (H : PoAt W x vp vl ve vk) (hg : GoodP x) (h : Own W NoF L w) :
    Calls Try.prog 13 #[poV x vp vl ve vk] w (RetRow W NoF L 66 3 (poP x).length (pkC (poP x))) := by
  have hr := hg.rt
  obtain ⟨pp, cp, rfl⟩ := H.p.slice
  obtain ⟨pl, cl, rfl⟩ := H.l.slice
  obtain ⟨pk, ck, rfl⟩ := PksAt.slice H.k
  have hb := Po.b_eq hr
  have hin := Po.b_in hr
  have hv := Po.v_bd hr
  have hsb := Po.s_bd hr
  have n1 := hr.n1
  have hle := hr.le
  unfold Bd at hle
  have hst := hr.sm
  have h1 := h.new (poO x (.slice pp x.c.ps.length cp) (.slice pl x.c.ls.length cl) ve (.slice pk x.l.length ck))
  have HO := fun w' hs => Lib.hid (pOf_any (w := w') (H.stp hs) hr)
  have HA := fun w => Lib.hid (rAvail_q (pp := pp) (np := x.c.ps.length) (cp := cp) (pl := pl) (nl := x.c.ls.length) (cl := cl) x.c hst x.v hv.1 (by omega) w)
  have HL := fun w => Lib.hid (rLease_q (pp := pp) (np := x.c.ps.length) (cp := cp) (pl := pl) (nl := x.c.ls.length) (cl := cl) x.c hst x.v hv.1 (by omega) x.s hsb.1 (by have := hst.2; omega) w)
  rw [hb] at HA HL
  have HK := Lib.hid H.k
  have HI := Lib.hid H.wf.l
  have hl40 := hg.l
  have Hpk := Lib.hid (show ∀ q, pokeP x q = if q.w % 2 = 0 then ⟨q.at_, (x.b : Int) + 1, (if q.x < 0 then 0 else q.x) % 4294967296⟩ else ⟨q.at_, (x.b : Int) + 2 + x.s, (if q.x < 0 then 0 else q.x) % (x.c.le + 1)⟩ from fun _ => rfl)
  have Htk := Lib.hid (poP_take x)
  have Hpl := Lib.hid (poP_len x)
  have Hall := Lib.hid (show poP x = (poP x).take x.l.length by rw [← poP_len, List.take_length])
  rw [Hpl.out, Hall.out]
  generalize poP x = P at *
  generalize pokeP x = fP at *
  generalize x.b = b at *
  generalize x.v = v at *
  generalize x.k = kk at *
  generalize x.s = ss at *
  generalize sizeN x.c = N at *
  have H1 := Lib.hid h1
  obtain ⟨st0, st1⟩ := hst
  have hB1 := h1.toBelow
  obtain ⟨i0, hi0, hz0, hz1, hz2⟩ := info_parts Try.info_pk
  unfold poV at HO ⊢
  clear h h1 hr H hg hb
  go_enter Try.func13, Try.ntmps13
  obtain ⟨d0, d1, d2, d3, d4, d5, d6, d7, d8, d9, d10, d11, d12, d13⟩ := poCells H1.out
  go_wp2_with fail
  refine (HO _ hB1).out.mono ?_
  rintro e w1 ⟨rfl, hB⟩
  have h2 := H1.out.below hB
  obtain ⟨B, hBd⟩ : ∃ B, B = w.heap.size := ⟨_, rfl⟩
  rw [← hBd] at h2 ⊢
  clear hB hB1 H1 HO d0 d1 d2 d3 d4 d5 d6 d7 d8 d9 d10 d11 d12 d13 hBd
  have H2 := Lib.hid (show Own W NoF (row (.slice none 0 0) 66 3 0 [] :: blk B (poO x (.slice pp x.c.ps.length cp) (.slice pl x.c.ls.length cl) ve (.slice pk x.l.length ck)) :: L) w1 from h2.rowNil)
  clear h2
  go_wp2_with fail
  go_loopw [6, 7, 8, 9] (fun v6 v7 v8 v9 wr => ∃ k : Nat, k ≤ x.l.length ∧ v7 = .int .i64 k ∧ Own W NoF (row v6 66 3 k (pkC (P.take k)) :: blk B (poO x (.slice pp x.c.ps.length cp) (.slice pl x.c.ls.length cl) ve (.slice pk x.l.length ck)) :: L) wr) (fun v6 v7 v8 v9 _ => x.l.length - (intOf v7).toNat)
  case atStart => exact ⟨0, Nat.zero_le _, rfl, by simpa [pkC] using H2.out⟩
  case round =>
    obtain ⟨k, hk, rfl, hO⟩ := hrel
    clear H2
    obtain ⟨po, co, rfl⟩ := row_slice hO
    obtain ⟨d0, d1, d2, d3, d4, d5, d6, d7, d8, d9, d10, d11, d12, d13⟩ := poCells hO.swap
    by_cases hlt : k < x.l.length
    · obtain ⟨b3, o3, e3, hb3, hc3⟩ := (RowAt.below HK.out hO.toBelow).at (by rw [pkC_len]; omega) (by omega)
      have Hnx := Lib.hid (Htk.out k hlt)
      have hIq := HI.out (x.l.getD k default) (by simp [List.getD, hlt])
      obtain ⟨q, hq⟩ : ∃ q, q = x.l.getD k default := ⟨_, rfl⟩
      have e := fun i hi => pkC_get x.l k i hlt hi
      rw [← hq] at e Hnx hIq
      have Hfq := Lib.hid (Hpk.out q)
      obtain ⟨y0, y1, y2⟩ := q
      simp only at Hfq hIq
      obtain ⟨I0, I1, I2⟩ := hIq
      unfold I64 at I0 I1 I2
      have x0 : wr.cell? ⟨b3, o3 + k * 3, none⟩ = some (.int .i64 y0) := hc3 (k * 3 + 0) _ (e 0 (by omega))
      have x1 : wr.cell? ⟨b3, o3 + k * 3 + 1, none⟩ = some (.int .i64 y1) := hc3 (k * 3 + 1) _ (e 1 (by omega))
      have x2 : wr.cell? ⟨b3, o3 + k * 3 + 2, none⟩ = some (.int .i64 y2) := hc3 (k * 3 + 2) _ (e 2 (by omega))
      clear hc3 e hq HK HI Htk
      subst e3
      have h3 := hO.new (.cells #[.int .i64 y0, .int .i64 y1, .int .i64 y2] 66)
      have H3 := Lib.hid h3
      obtain ⟨e0, e1, e2⟩ := pkCells3 h3
      have h5 := h3.p2
      have hkl : (k : Int) < (x.l.length : Int) := by omega
      clear hO
      have ht : y1.tmod 2 = 0 ↔ y1 % 2 = 0 := ⟨fun h => Int.emod_eq_zero_of_dvd (Int.dvd_of_tmod_eq_zero h), fun h => Int.tmod_eq_zero_of_dvd (Int.dvd_of_emod_eq_zero h)⟩
      obtain ⟨n, hn⟩ : ∃ n, n = if y2 < 0 then 0 else y2 := ⟨_, rfl⟩
      rw [← hn] at Hfq
      have n0 : 0 ≤ n := by rw [hn]; split <;> omega
      have nm : n ≤ 9223372036854775807 := by rw [hn]; split <;> omega
      have m1 : n.tmod 4294967296 = n % 4294967296 := Int.tmod_eq_emod_of_nonneg n0
      have m2 : n.tmod (x.c.le + 1) = n % (x.c.le + 1) := Int.tmod_eq_emod_of_nonneg n0
      have hw2 : IntKind.i64.wrap (x.c.le + 1) = x.c.le + 1 := IntWalk.i64_in _ (by omega)
      have hw4 : ¬ x.c.le + 1 = 0 := by omega
      obtain ⟨d0, d1, d2, d3, d4, d5, d6, d7, d8, d9, d10, d11, d12, d13⟩ := poCells h5
      clear h3 h5
      by_cases hy2 : y2 < 0
      · rw [if_pos hy2] at hn
        by_cases hy1 : y1 % 2 = 0
        · have g1 : y1.tmod 2 = 0 := ht.2 hy1
          rw [if_pos hy1] at Hfq
          subst hn
          clear ht hy1 I0 I1 I2
          have g1b : (y1.tmod 2 == 0) = true := by rw [g1]; rfl
          go_wp2_with fail
          generalize wr.heap.size = PB at *
          generalize World.alloc wr _ = w5 at *
          have hO := H3.out.swap.drew
          have Hnews := fun w' : World => Lib.hid (news_at w' [.int .i64 y0, .int .i64 ((b : Int) + 1), .int .i64 (0 % 4294967296)] 66 _ rfl)
          have l1 : k + 1 ≤ maxLen := by unfold maxLen; omega
          have l2 : (k + 1) * 24 ≤ 140737488355328 := by omega
          clear H3 Hpk Hpl Hall
          go_region_law (first | (refine step_append_row rfl (.tmp 36) (.tmp 46) 27 rfl 66 i0 _ Try.underlying27 hi0 hz0 hz1 hz2 rfl (by decide) (by simp [Act.eval]) (Own.alloc hM _) ⟨w6.heap.size, 0, none⟩ 1 1 [.int .i64 y0, .int .i64 ((b : Int) + 1), .int .i64 (0 % 4294967296)] (by simp [Act.eval]) rfl (Hnews _).out (by simp [Value.oneCell']) l1 l2 ?_; intro v' w3 hR hg hn2; obtain ⟨p', cp', rfl⟩ := row_slice hR; clear hg hn2) | (go_simp; go_at_call 31; with_reducible refine Calls.mono (Hid.out (HA _)) ?_; rintro e w6 ⟨rfl, hB⟩; have hM := Own.below hO hB; obtain ⟨d0, d1, d2, d3, d4, d5, d6, d7, d8, d9, d10, d11, d12, d13⟩ := poCells hM.p2; obtain ⟨e0, e1, e2⟩ := pkCells3 hM.swap))
          all_goals
            have hR2 : Own W NoF (row (.slice p' (k + 1) cp') 66 3 (k + 1) (pkC (P.take (k + 1))) :: blk B (poO x (.slice pp x.c.ps.length cp) (.slice pl x.c.ls.length cl) ve (.slice (some ⟨b3, o3, none⟩) x.l.length ck)) :: L) w3 := by
              rw [Hnx.out, Hfq.out]
              have hc : ∀ (l : List Pk) (a b c : Int), pkC (l ++ [⟨a, b, c⟩]) = pkC l ++ [.int .i64 a, .int .i64 b, .int .i64 c] := fun l a b c => by simp [pkC, Pk.cells]
              rw [hc]
              exact hR.under fun _ _ h => h.drop
            have HR := Lib.hid hR2
            clear hR hR2 hM hO
            go_wp2_with fail
            go_roundw
            case rel => exact ⟨k + 1, by omega, by go_num, HR.out⟩
            case measure => simp [intOf]; omega
        · have g1 : ¬ y1.tmod 2 = 0 := fun h => hy1 (ht.1 h)
          rw [if_neg hy1] at Hfq
          subst hn
          clear ht hy1 I0 I1 I2
          have g1b : (y1.tmod 2 == 0) = false := by rw [beq_eq_false_iff_ne]; exact g1
          go_wp2_with fail
          generalize wr.heap.size = PB at *
          generalize World.alloc wr _ = w5 at *
          have hO := H3.out.swap.drew
          have Hnews := fun w' : World => Lib.hid (news_at w' [.int .i64 y0, .int .i64 ((b : Int) + 2 + ss), .int .i64 (0 % (x.c.le + 1))] 66 _ rfl)
          have l1 : k + 1 ≤ maxLen := by unfold maxLen; omega
          have l2 : (k + 1) * 24 ≤ 140737488355328 := by omega
          clear H3 Hpk Hpl Hall
          go_region_law (first | (refine step_append_row rfl (.tmp 48) (.tmp 63) 27 rfl 66 i0 _ Try.underlying27 hi0 hz0 hz1 hz2 rfl (by decide) (by simp [Act.eval]) (Own.alloc hM _) ⟨w6.heap.size, 0, none⟩ 1 1 [.int .i64 y0, .int .i64 ((b : Int) + 2 + ss), .int .i64 (0 % (x.c.le + 1))] (by simp [Act.eval]) rfl (Hnews _).out (by simp [Value.oneCell']) l1 l2 ?_; intro v' w3 hR hg hn2; obtain ⟨p', cp', rfl⟩ := row_slice hR; clear hg hn2) | (go_simp; go_at_call 30; with_reducible refine Calls.mono (Hid.out (HL _)) ?_; rintro e w6 ⟨rfl, hB⟩; have hM := Own.below hO hB; obtain ⟨d0, d1, d2, d3, d4, d5, d6, d7, d8, d9, d10, d11, d12, d13⟩ := poCells hM.p2; obtain ⟨e0, e1, e2⟩ := pkCells3 hM.swap))
          all_goals
            have hR2 : Own W NoF (row (.slice p' (k + 1) cp') 66 3 (k + 1) (pkC (P.take (k + 1))) :: blk B (poO x (.slice pp x.c.ps.length cp) (.slice pl x.c.ls.length cl) ve (.slice (some ⟨b3, o3, none⟩) x.l.length ck)) :: L) w3 := by
              rw [Hnx.out, Hfq.out]
              have hc : ∀ (l : List Pk) (a b c : Int), pkC (l ++ [⟨a, b, c⟩]) = pkC l ++ [.int .i64 a, .int .i64 b, .int .i64 c] := fun l a b c => by simp [pkC, Pk.cells]
              rw [hc]
              exact hR.under fun _ _ h => h.drop
            have HR := Lib.hid hR2
            clear hR hR2 hM hO
            go_wp2_with fail
            go_roundw
            case rel => exact ⟨k + 1, by omega, by go_num, HR.out⟩
            case measure => simp [intOf]; omega
      · rw [if_neg hy2] at hn
        subst hn
        by_cases hy1 : y1 % 2 = 0
        · have g1 : y1.tmod 2 = 0 := ht.2 hy1
          rw [if_pos hy1] at Hfq
          clear ht hy1 I0 I1 I2
          have g1b : (y1.tmod 2 == 0) = true := by rw [g1]; rfl
          go_wp2_with fail
          generalize wr.heap.size = PB at *
          generalize World.alloc wr _ = w5 at *
          have hO := H3.out.swap.drew
          have Hnews := fun w' : World => Lib.hid (news_at w' [.int .i64 y0, .int .i64 ((b : Int) + 1), .int .i64 (n % 4294967296)] 66 _ rfl)
          have l1 : k + 1 ≤ maxLen := by unfold maxLen; omega
          have l2 : (k + 1) * 24 ≤ 140737488355328 := by omega
          clear H3 Hpk Hpl Hall
          go_region_law (first | (refine step_append_row rfl (.tmp 36) (.tmp 46) 27 rfl 66 i0 _ Try.underlying27 hi0 hz0 hz1 hz2 rfl (by decide) (by simp [Act.eval]) (Own.alloc hM _) ⟨w6.heap.size, 0, none⟩ 1 1 [.int .i64 y0, .int .i64 ((b : Int) + 1), .int .i64 (n % 4294967296)] (by simp [Act.eval]) rfl (Hnews _).out (by simp [Value.oneCell']) l1 l2 ?_; intro v' w3 hR hg hn2; obtain ⟨p', cp', rfl⟩ := row_slice hR; clear hg hn2) | (go_simp; go_at_call 31; with_reducible refine Calls.mono (Hid.out (HA _)) ?_; rintro e w6 ⟨rfl, hB⟩; have hM := Own.below hO hB; obtain ⟨d0, d1, d2, d3, d4, d5, d6, d7, d8, d9, d10, d11, d12, d13⟩ := poCells hM.p2; obtain ⟨e0, e1, e2⟩ := pkCells3 hM.swap))
          all_goals
            have hR2 : Own W NoF (row (.slice p' (k + 1) cp') 66 3 (k + 1) (pkC (P.take (k + 1))) :: blk B (poO x (.slice pp x.c.ps.length cp) (.slice pl x.c.ls.length cl) ve (.slice (some ⟨b3, o3, none⟩) x.l.length ck)) :: L) w3 := by
              rw [Hnx.out, Hfq.out]
              have hc : ∀ (l : List Pk) (a b c : Int), pkC (l ++ [⟨a, b, c⟩]) = pkC l ++ [.int .i64 a, .int .i64 b, .int .i64 c] := fun l a b c => by simp [pkC, Pk.cells]
              rw [hc]
              exact hR.under fun _ _ h => h.drop
            have HR := Lib.hid hR2
            clear hR hR2 hM hO
            go_wp2_with fail
            go_roundw
            case rel => exact ⟨k + 1, by omega, by go_num, HR.out⟩
            case measure => simp [intOf]; omega
        · have g1 : ¬ y1.tmod 2 = 0 := fun h => hy1 (ht.1 h)
          rw [if_neg hy1] at Hfq
          clear ht hy1 I0 I1 I2
          have g1b : (y1.tmod 2 == 0) = false := by rw [beq_eq_false_iff_ne]; exact g1
          go_wp2_with fail
          generalize wr.heap.size = PB at *
          generalize World.alloc wr _ = w5 at *
          have hO := H3.out.swap.drew
          have Hnews := fun w' : World => Lib.hid (news_at w' [.int .i64 y0, .int .i64 ((b : Int) + 2 + ss), .int .i64 (n % (x.c.le + 1))] 66 _ rfl)
          have l1 : k + 1 ≤ maxLen := by unfold maxLen; omega
          have l2 : (k + 1) * 24 ≤ 140737488355328 := by omega
          clear H3 Hpk Hpl Hall
          go_region_law (first | (refine step_append_row rfl (.tmp 48) (.tmp 63) 27 rfl 66 i0 _ Try.underlying27 hi0 hz0 hz1 hz2 rfl (by decide) (by simp [Act.eval]) (Own.alloc hM _) ⟨w6.heap.size, 0, none⟩ 1 1 [.int .i64 y0, .int .i64 ((b : Int) + 2 + ss), .int .i64 (n % (x.c.le + 1))] (by simp [Act.eval]) rfl (Hnews _).out (by simp [Value.oneCell']) l1 l2 ?_; intro v' w3 hR hg hn2; obtain ⟨p', cp', rfl⟩ := row_slice hR; clear hg hn2) | (go_simp; go_at_call 30; with_reducible refine Calls.mono (Hid.out (HL _)) ?_; rintro e w6 ⟨rfl, hB⟩; have hM := Own.below hO hB; obtain ⟨d0, d1, d2, d3, d4, d5, d6, d7, d8, d9, d10, d11, d12, d13⟩ := poCells hM.p2; obtain ⟨e0, e1, e2⟩ := pkCells3 hM.swap))
          all_goals
            have hR2 : Own W NoF (row (.slice p' (k + 1) cp') 66 3 (k + 1) (pkC (P.take (k + 1))) :: blk B (poO x (.slice pp x.c.ps.length cp) (.slice pl x.c.ls.length cl) ve (.slice (some ⟨b3, o3, none⟩) x.l.length ck)) :: L) w3 := by
              rw [Hnx.out, Hfq.out]
              have hc : ∀ (l : List Pk) (a b c : Int), pkC (l ++ [⟨a, b, c⟩]) = pkC l ++ [.int .i64 a, .int .i64 b, .int .i64 c] := fun l a b c => by simp [pkC, Pk.cells]
              rw [hc]
              exact hR.under fun _ _ h => h.drop
            have HR := Lib.hid hR2
            clear hR hR2 hM hO
            go_wp2_with fail
            go_roundw
            case rel => exact ⟨k + 1, by omega, by go_num, HR.out⟩
            case measure => simp [intOf]; omega
    · obtain rfl : k = x.l.length := by omega
      have HO2 := Lib.hid (hO.under fun _ _ h => h.drop)
      go_wp2_with fail
      go_ret
      exact ⟨_, rfl, HO2.out⟩
end Go.Proofs.Ytpapcblgojfooaa
