/- Texts of elder layers, one behind the other: PoolMach, PoolAlone. -/
import Derived.Test.YtjohngpbggendaaGreatT26
section
/- Package pool's machine: its accesses, Step, Ans, by their own code. Written by tools/gen_poolmach.py. -/
namespace Go.Proofs.YtjohngpbggendaaGreat
open Go.ChangeShapes Go.WideShapes Go.ChangeAt Go.RowKit Go.Shelf
set_option linter.unusedVariables false
set_option linter.unusedSimpArgs false
set_option maxRecDepth 100000
variable {w0 w w' : World} {F0 : Nat → Prop} {L : List Asn} {T : TypeId} {m : Nat} {ws : List Int} {lg : List Acc}
theorem behind_any {k : Nat} {nx nd n le av mo wa ex er an : Int} (h0 : 0 ≤ ex) (h : Own w0 F0 (blk k (pmO nx nd n le av mo wa ex er an) :: L) w) : Calls Tryz.prog 237 #[.pointer (some ⟨k, 0, none⟩)] w fun e w' => e = .returned (.int .i64 (if ex = 0 then 0 else 5)) ∧ w = w' := by
  by_cases he : ex = 0
  · rw [if_pos he]; exact behind_zero h he
  · rw [if_neg he]; exact behind_more h (by omega)
theorem pLoad_y (i : Nat) (y : Int) (hy : ws.getD i 0 = y) (hi : i < ws.length) (hl : lg.length < 1000000) (h : Own w0 F0 (memA T m ws lg :: L) w) :
    Calls Tryz.prog 175 #[.pointer (some ⟨m, 0, none⟩), .int .i64 i] w fun e w' =>
      e = .returned (.int .i64 y) ∧ Own w0 F0 (memA T m ws (lg ++ [⟨1, i, y, 0, false⟩]) :: L) w' := by
  subst hy; exact Load_any i hi hl h
section
variable {g : Nat} {nd n mo wa ex er an : Int} {le av : Nat}
theorem acc0_yes (y : Int) (hi : le < ws.length) (hy : ws.getD le 0 = y) (hc : n ≤ y) (hl : lg.length < 1000000)
    (h : Own w0 F0 (blk g (pmO 1 nd n le av mo wa ex er an) :: memA T m ws lg :: L) w) :
    Calls Tryz.prog 233 #[.pointer (some ⟨g, 0, none⟩), .pointer (some ⟨m, 0, none⟩)] w fun e w' => e = .returned (.int .i64 2) ∧
      Own w0 F0 (blk g (pmO 1 nd n le av mo y ex er an) :: memA T m ws (lg ++ [⟨1, le, y, 0, false⟩]) :: L) w' := by
  have H1 := Lib.hid (pLoad_y (L := blk g (pmO 1 nd n le av mo wa ex er an) :: L) le y hy hi hl h.swap)
  obtain ⟨c0, c1, c2, c3, c4, c5, c6, c7, c8, c9, c10, c11, cf⟩ := pmCells h
  clear h hi hy hl
  go_enter Tryz.func233, Tryz.ntmps233
  go_wp2_with fail
  refine H1.out.mono ?_
  rintro e w1 ⟨rfl, hM⟩
  obtain ⟨d0, d1, d2, d3, d4, d5, d6, d7, d8, d9, d10, d11, df⟩ := pmCells hM.swap
  have h2 := Lib.hid (hM.swap.set 6 (.int .i64 y))
  clear H1 hM c0 c1 c2 c3 c4 c5 c6 c7 c8 c9 c10 c11 cf
  go_wp2_with fail
  have h3 : Own w0 F0 (blk g (pmO 1 nd n le av mo y ex er an) :: memA T m ws (lg ++ [⟨1, le, y, 0, false⟩]) :: L) _ := h2.out
  generalize World.setCell _ _ _ = w2 at h3 ⊢
  have H3 := Lib.hid (byLease_yes h3 hc)
  clear h2 h3 d0 d1 d2 d3 d4 d5 d6 d7 d8 d9 d10 d11 df
  go_wp2_with fail
  refine H3.out.mono ?_
  rintro e w3 ⟨rfl, hO⟩
  have hO := Lib.hid hO
  clear H3
  go_wp2_with fail
  go_ret
  exact ⟨rfl, hO.out⟩
theorem acc0_no (y : Int) (hi : le < ws.length) (hy : ws.getD le 0 = y) (hc : y < n) (hl : lg.length < 1000000)
    (h : Own w0 F0 (blk g (pmO 1 nd n le av mo wa ex er an) :: memA T m ws lg :: L) w) :
    Calls Tryz.prog 233 #[.pointer (some ⟨g, 0, none⟩), .pointer (some ⟨m, 0, none⟩)] w fun e w' => e = .returned (.int .i64 3) ∧
      Own w0 F0 (blk g (pmO 1 nd n le av mo y ex er an) :: memA T m ws (lg ++ [⟨1, le, y, 0, false⟩]) :: L) w' := by
  have H1 := Lib.hid (pLoad_y (L := blk g (pmO 1 nd n le av mo wa ex er an) :: L) le y hy hi hl h.swap)
  obtain ⟨c0, c1, c2, c3, c4, c5, c6, c7, c8, c9, c10, c11, cf⟩ := pmCells h
  clear h hi hy hl
  go_enter Tryz.func233, Tryz.ntmps233
  go_wp2_with fail
  refine H1.out.mono ?_
  rintro e w1 ⟨rfl, hM⟩
  obtain ⟨d0, d1, d2, d3, d4, d5, d6, d7, d8, d9, d10, d11, df⟩ := pmCells hM.swap
  have h2 := Lib.hid (hM.swap.set 6 (.int .i64 y))
  clear H1 hM c0 c1 c2 c3 c4 c5 c6 c7 c8 c9 c10 c11 cf
  go_wp2_with fail
  have h3 : Own w0 F0 (blk g (pmO 1 nd n le av mo y ex er an) :: memA T m ws (lg ++ [⟨1, le, y, 0, false⟩]) :: L) _ := h2.out
  generalize World.setCell _ _ _ = w2 at h3 ⊢
  have H3 := Lib.hid (byLease_no h3 hc)
  clear h2 h3 d0 d1 d2 d3 d4 d5 d6 d7 d8 d9 d10 d11 df
  go_wp2_with fail
  refine H3.out.mono ?_
  rintro e w3 ⟨rfl, hO⟩
  have hO := Lib.hid hO
  clear H3
  go_wp2_with fail
  go_ret
  exact ⟨rfl, hO.out⟩
theorem acc2_no (y : Int) (hi : av < ws.length) (hy : ws.getD av 0 = y) (hc : y < n) (hl : lg.length < 1000000)
    (h : Own w0 F0 (blk g (pmO 3 nd n le av mo wa ex er an) :: memA T m ws lg :: L) w) :
    Calls Tryz.prog 233 #[.pointer (some ⟨g, 0, none⟩), .pointer (some ⟨m, 0, none⟩)] w fun e w' => e = .returned (.int .i64 0) ∧
      Own w0 F0 (blk g (pmO 3 nd n le av mo y ex 4 nd) :: memA T m ws (lg ++ [⟨1, av, y, 0, false⟩]) :: L) w' := by
  have H1 := Lib.hid (pLoad_y (L := blk g (pmO 3 nd n le av mo wa ex er an) :: L) av y hy hi hl h.swap)
  obtain ⟨c0, c1, c2, c3, c4, c5, c6, c7, c8, c9, c10, c11, cf⟩ := pmCells h
  clear h hi hy hl
  go_enter Tryz.func233, Tryz.ntmps233
  go_wp2_with fail
  refine H1.out.mono ?_
  rintro e w1 ⟨rfl, hM⟩
  obtain ⟨d0, d1, d2, d3, d4, d5, d6, d7, d8, d9, d10, d11, df⟩ := pmCells hM.swap
  have h2 := Lib.hid (hM.swap.set 6 (.int .i64 y))
  clear H1 hM c0 c1 c2 c3 c4 c5 c6 c7 c8 c9 c10 c11 cf
  go_wp2_with fail
  have h3 : Own w0 F0 (blk g (pmO 3 nd n le av mo y ex er an) :: memA T m ws (lg ++ [⟨1, av, y, 0, false⟩]) :: L) _ := h2.out
  generalize World.setCell _ _ _ = w2 at h3 ⊢
  have H3 := Lib.hid (byAvail_no h3 hc)
  clear h2 h3 d0 d1 d2 d3 d4 d5 d6 d7 d8 d9 d10 d11 df
  go_wp2_with fail
  refine H3.out.mono ?_
  rintro e w3 ⟨rfl, hO⟩
  have hO := Lib.hid hO
  clear H3
  go_wp2_with fail
  go_ret
  exact ⟨rfl, hO.out⟩
theorem acc2_yes (y : Int) (hi : av < ws.length) (hy : ws.getD av 0 = y) (hc : n ≤ y) (y1 : y ≤ 1000000000000000000) (n0 : 0 ≤ n) (m0 : 0 ≤ mo) (m1 : mo ≤ 1048576) (hl : lg.length < 1000000)
    (h : Own w0 F0 (blk g (pmO 3 nd n le av mo wa ex er an) :: memA T m ws lg :: L) w) :
    Calls Tryz.prog 233 #[.pointer (some ⟨g, 0, none⟩), .pointer (some ⟨m, 0, none⟩)] w fun e w' => e = .returned (.int .i64 4) ∧
      Own w0 F0 (blk g (pmO 3 nd n le av mo y (mn (y - n) (mo / 2)) er an) :: memA T m ws (lg ++ [⟨1, av, y, 0, false⟩]) :: L) w' := by
  have H1 := Lib.hid (pLoad_y (L := blk g (pmO 3 nd n le av mo wa ex er an) :: L) av y hy hi hl h.swap)
  obtain ⟨c0, c1, c2, c3, c4, c5, c6, c7, c8, c9, c10, c11, cf⟩ := pmCells h
  clear h hi hy hl
  go_enter Tryz.func233, Tryz.ntmps233
  go_wp2_with fail
  refine H1.out.mono ?_
  rintro e w1 ⟨rfl, hM⟩
  obtain ⟨d0, d1, d2, d3, d4, d5, d6, d7, d8, d9, d10, d11, df⟩ := pmCells hM.swap
  have h2 := Lib.hid (hM.swap.set 6 (.int .i64 y))
  clear H1 hM c0 c1 c2 c3 c4 c5 c6 c7 c8 c9 c10 c11 cf
  go_wp2_with fail
  have h3 : Own w0 F0 (blk g (pmO 3 nd n le av mo y ex er an) :: memA T m ws (lg ++ [⟨1, av, y, 0, false⟩]) :: L) _ := h2.out
  generalize World.setCell _ _ _ = w2 at h3 ⊢
  have H3 := Lib.hid (byAvail_yes h3 hc y1 n0 m0 m1)
  clear h2 h3 d0 d1 d2 d3 d4 d5 d6 d7 d8 d9 d10 d11 df
  go_wp2_with fail
  refine H3.out.mono ?_
  rintro e w3 ⟨rfl, hO⟩
  have hO := Lib.hid hO
  clear H3
  go_wp2_with fail
  go_ret
  exact ⟨rfl, hO.out⟩
theorem acc4_yes (y : Int) (hi : le < ws.length) (hy : ws.getD le 0 = y) (hc : y + ex ≤ mo) (y0 : -9223372036854775808 ≤ y + ex) (y1 : y + ex ≤ 9223372036854775807) (hl : lg.length < 1000000)
    (h : Own w0 F0 (blk g (pmO 5 nd n le av mo wa ex er an) :: memA T m ws lg :: L) w) :
    Calls Tryz.prog 233 #[.pointer (some ⟨g, 0, none⟩), .pointer (some ⟨m, 0, none⟩)] w fun e w' => e = .returned (.int .i64 6) ∧
      Own w0 F0 (blk g (pmO 5 nd n le av mo y ex er an) :: memA T m ws (lg ++ [⟨1, le, y, 0, false⟩]) :: L) w' := by
  have H1 := Lib.hid (pLoad_y (L := blk g (pmO 5 nd n le av mo wa ex er an) :: L) le y hy hi hl h.swap)
  obtain ⟨c0, c1, c2, c3, c4, c5, c6, c7, c8, c9, c10, c11, cf⟩ := pmCells h
  clear h hi hy hl
  go_enter Tryz.func233, Tryz.ntmps233
  go_wp2_with fail
  refine H1.out.mono ?_
  rintro e w1 ⟨rfl, hM⟩
  obtain ⟨d0, d1, d2, d3, d4, d5, d6, d7, d8, d9, d10, d11, df⟩ := pmCells hM.swap
  have h2 := Lib.hid (hM.swap.set 6 (.int .i64 y))
  clear H1 hM c0 c1 c2 c3 c4 c5 c6 c7 c8 c9 c10 c11 cf
  go_wp2_with fail
  have h3 : Own w0 F0 (blk g (pmO 5 nd n le av mo y ex er an) :: memA T m ws (lg ++ [⟨1, le, y, 0, false⟩]) :: L) _ := h2.out
  generalize World.setCell _ _ _ = w2 at h3 ⊢
  have H3 := Lib.hid (byRoom_yes h3 hc y0 y1)
  clear h2 h3 d0 d1 d2 d3 d4 d5 d6 d7 d8 d9 d10 d11 df
  go_wp2_with fail
  refine H3.out.mono ?_
  rintro e w3 ⟨rfl, hO⟩
  have hO := Lib.hid hO
  clear H3
  go_wp2_with fail
  go_ret
  exact ⟨rfl, hO.out⟩
theorem acc4_no (y : Int) (hi : le < ws.length) (hy : ws.getD le 0 = y) (hc : mo < y + ex) (y0 : -9223372036854775808 ≤ y + ex) (y1 : y + ex ≤ 9223372036854775807) (hl : lg.length < 1000000)
    (h : Own w0 F0 (blk g (pmO 5 nd n le av mo wa ex er an) :: memA T m ws lg :: L) w) :
    Calls Tryz.prog 233 #[.pointer (some ⟨g, 0, none⟩), .pointer (some ⟨m, 0, none⟩)] w fun e w' => e = .returned (.int .i64 7) ∧
      Own w0 F0 (blk g (pmO 5 nd n le av mo y ex er an) :: memA T m ws (lg ++ [⟨1, le, y, 0, false⟩]) :: L) w' := by
  have H1 := Lib.hid (pLoad_y (L := blk g (pmO 5 nd n le av mo wa ex er an) :: L) le y hy hi hl h.swap)
  obtain ⟨c0, c1, c2, c3, c4, c5, c6, c7, c8, c9, c10, c11, cf⟩ := pmCells h
  clear h hi hy hl
  go_enter Tryz.func233, Tryz.ntmps233
  go_wp2_with fail
  refine H1.out.mono ?_
  rintro e w1 ⟨rfl, hM⟩
  obtain ⟨d0, d1, d2, d3, d4, d5, d6, d7, d8, d9, d10, d11, df⟩ := pmCells hM.swap
  have h2 := Lib.hid (hM.swap.set 6 (.int .i64 y))
  clear H1 hM c0 c1 c2 c3 c4 c5 c6 c7 c8 c9 c10 c11 cf
  go_wp2_with fail
  have h3 : Own w0 F0 (blk g (pmO 5 nd n le av mo y ex er an) :: memA T m ws (lg ++ [⟨1, le, y, 0, false⟩]) :: L) _ := h2.out
  generalize World.setCell _ _ _ = w2 at h3 ⊢
  have H3 := Lib.hid (byRoom_no h3 hc y0 y1)
  clear h2 h3 d0 d1 d2 d3 d4 d5 d6 d7 d8 d9 d10 d11 df
  go_wp2_with fail
  refine H3.out.mono ?_
  rintro e w3 ⟨rfl, hO⟩
  have hO := Lib.hid hO
  clear H3
  go_wp2_with fail
  go_ret
  exact ⟨rfl, hO.out⟩
theorem acc1_yes (hi : le < ws.length) (he : ws.getD le 0 = wa) (b0 : -9223372036854775808 ≤ wa - (n)) (b1 : wa - (n) ≤ 9223372036854775807)  (hl : lg.length < 1000000)
    (h : Own w0 F0 (blk g (pmO 2 nd n le av mo wa ex er an) :: memA T m ws lg :: L) w) :
    Calls Tryz.prog 233 #[.pointer (some ⟨g, 0, none⟩), .pointer (some ⟨m, 0, none⟩)] w fun e w' => e = .returned (.int .i64 0) ∧
      Own w0 F0 (blk g (pmO 2 nd n le av mo wa ex er an) :: memA T m (ws.set le (wa - (n))) (lg ++ [⟨3, le, wa, wa - (n), true⟩]) :: L) w' := by
  have HC := fun w h => Lib.hid (take_yes (w0 := w0) (F0 := F0) (T := T) (m := m) (ws := ws) (lg := lg) (w := w) (L := L) (k := g) (nx := 2) (nd := nd) (n := n) (le := le) (av := av) (mo := mo) (wa := wa) (ex := ex) (er := er) (an := an) le (n) (0) (1) hi hl he b0 b1 h)
  obtain ⟨c0, c1, c2, c3, c4, c5, c6, c7, c8, c9, c10, c11, cf⟩ := pmCells h
  have hO := h.swap.drew
  clear h hi hl he
  go_enter Tryz.func233, Tryz.ntmps233
  go_wp2_with fail
  go_region_held3 (fun w' => w'.cell? ⟨g, 3, none⟩ = some (.int .i64 le) ∧ w'.cell? ⟨g, 2, none⟩ = some (.int .i64 n)) (go_keep) (first | (go_at_call 235; with_reducible refine Calls.mono (Hid.out (HC _ hO)) ?_; rintro e w4 ⟨rfl, hM⟩; obtain ⟨d0, d1, d2, d3, d4, d5, d6, d7, d8, d9, d10, d11, df⟩ := pmCells hM.swap))
  all_goals
    have HM := Lib.hid hM
    clear hM hO HC
    go_wp2_with fail
    go_ret
    exact ⟨rfl, HM.out.swap⟩
theorem acc3_yes (hi : av < ws.length) (he : ws.getD av 0 = wa) (b0 : -9223372036854775808 ≤ wa - (n + ex)) (b1 : wa - (n + ex) ≤ 9223372036854775807) (dn : Int) (hdn : (if ex = 0 then (0 : Int) else 5) = dn) (e0 : 0 ≤ ex) (s0 : -9223372036854775808 ≤ n + ex) (s1 : n + ex ≤ 9223372036854775807) (hl : lg.length < 1000000)
    (h : Own w0 F0 (blk g (pmO 4 nd n le av mo wa ex er an) :: memA T m ws lg :: L) w) :
    Calls Tryz.prog 233 #[.pointer (some ⟨g, 0, none⟩), .pointer (some ⟨m, 0, none⟩)] w fun e w' => e = .returned (.int .i64 dn) ∧
      Own w0 F0 (blk g (pmO 4 nd n le av mo wa ex er an) :: memA T m (ws.set av (wa - (n + ex))) (lg ++ [⟨3, av, wa, wa - (n + ex), true⟩]) :: L) w' := by
  have HC := fun w h => Lib.hid (take_yes (w0 := w0) (F0 := F0) (T := T) (m := m) (ws := ws) (lg := lg) (w := w) (L := L) (k := g) (nx := 4) (nd := nd) (n := n) (le := le) (av := av) (mo := mo) (wa := wa) (ex := ex) (er := er) (an := an) av (n + ex) (dn) (3) hi hl he b0 b1 h)
  obtain ⟨c0, c1, c2, c3, c4, c5, c6, c7, c8, c9, c10, c11, cf⟩ := pmCells h
  have hO := h.swap.drew
  have hwr : IntKind.i64.wrap (n + ex) = n + ex := IntWalk.i64_in _ (by omega)
  have HB := fun w (h : Own w0 F0 (memA T m ws lg :: blk g (pmO 4 nd n le av mo wa ex er an) :: L) w) => Lib.hid (hdn ▸ behind_any e0 h.swap)
  clear hdn
  clear h hi hl he
  go_enter Tryz.func233, Tryz.ntmps233
  go_wp2_with fail
  go_region_held3 (fun w' => w'.cell? ⟨g, 4, none⟩ = some (.int .i64 av) ∧ w'.cell? ⟨g, 2, none⟩ = some (.int .i64 n) ∧ w'.cell? ⟨g, 7, none⟩ = some (.int .i64 ex)) (go_keep) (first | (go_at_call 237; with_reducible refine Calls.mono (Hid.out (HB _ hO)) ?_; rintro e w4 ⟨rfl, rfl⟩) | (go_at_call 235; with_reducible refine Calls.mono (Hid.out (HC _ hO)) ?_; rintro e w4 ⟨rfl, hM⟩; obtain ⟨d0, d1, d2, d3, d4, d5, d6, d7, d8, d9, d10, d11, df⟩ := pmCells hM.swap))
  all_goals
    have HM := Lib.hid hM
    clear hM hO HC
    go_wp2_with fail
    go_ret
    exact ⟨rfl, HM.out.swap⟩
theorem acc5_yes (hi : le < ws.length) (he : ws.getD le 0 = wa) (b0 : -9223372036854775808 ≤ wa - (-ex)) (b1 : wa - (-ex) ≤ 9223372036854775807) (s0 : -9223372036854775807 ≤ ex) (s1 : ex ≤ 9223372036854775807) (hl : lg.length < 1000000)
    (h : Own w0 F0 (blk g (pmO 6 nd n le av mo wa ex er an) :: memA T m ws lg :: L) w) :
    Calls Tryz.prog 233 #[.pointer (some ⟨g, 0, none⟩), .pointer (some ⟨m, 0, none⟩)] w fun e w' => e = .returned (.int .i64 0) ∧
      Own w0 F0 (blk g (pmO 6 nd n le av mo wa ex er an) :: memA T m (ws.set le (wa - (-ex))) (lg ++ [⟨3, le, wa, wa - (-ex), true⟩]) :: L) w' := by
  have HC := fun w h => Lib.hid (take_yes (w0 := w0) (F0 := F0) (T := T) (m := m) (ws := ws) (lg := lg) (w := w) (L := L) (k := g) (nx := 6) (nd := nd) (n := n) (le := le) (av := av) (mo := mo) (wa := wa) (ex := ex) (er := er) (an := an) le (-ex) (0) (5) hi hl he b0 b1 h)
  obtain ⟨c0, c1, c2, c3, c4, c5, c6, c7, c8, c9, c10, c11, cf⟩ := pmCells h
  have hO := h.swap.drew
  have hwr : IntKind.i64.wrap (-ex) = -ex := IntWalk.i64_in _ (by omega)
  clear h hi hl he
  go_enter Tryz.func233, Tryz.ntmps233
  go_wp2_with fail
  go_region_held3 (fun w' => w'.cell? ⟨g, 3, none⟩ = some (.int .i64 le) ∧ w'.cell? ⟨g, 7, none⟩ = some (.int .i64 ex)) (go_keep) (first | (go_at_call 235; with_reducible refine Calls.mono (Hid.out (HC _ hO)) ?_; rintro e w4 ⟨rfl, hM⟩; obtain ⟨d0, d1, d2, d3, d4, d5, d6, d7, d8, d9, d10, d11, df⟩ := pmCells hM.swap))
  all_goals
    have HM := Lib.hid hM
    clear hM hO HC
    go_wp2_with fail
    go_ret
    exact ⟨rfl, HM.out.swap⟩
theorem acc1_no (hi : le < ws.length) (he : ws.getD le 0 ≠ wa) (b0 : -9223372036854775808 ≤ wa - (n)) (b1 : wa - (n) ≤ 9223372036854775807)  (hl : lg.length < 1000000)
    (h : Own w0 F0 (blk g (pmO 2 nd n le av mo wa ex er an) :: memA T m ws lg :: L) w) :
    Calls Tryz.prog 233 #[.pointer (some ⟨g, 0, none⟩), .pointer (some ⟨m, 0, none⟩)] w fun e w' => e = .returned (.int .i64 1) ∧
      Own w0 F0 (blk g (pmO 2 nd n le av mo wa ex er an) :: memA T m ws (lg ++ [⟨3, le, wa, wa - (n), false⟩]) :: L) w' := by
  have HC := fun w h => Lib.hid (take_no (w0 := w0) (F0 := F0) (T := T) (m := m) (ws := ws) (lg := lg) (w := w) (L := L) (k := g) (nx := 2) (nd := nd) (n := n) (le := le) (av := av) (mo := mo) (wa := wa) (ex := ex) (er := er) (an := an) le (n) (0) (1) hi hl he b0 b1 h)
  obtain ⟨c0, c1, c2, c3, c4, c5, c6, c7, c8, c9, c10, c11, cf⟩ := pmCells h
  have hO := h.swap.drew
  clear h hi hl he
  go_enter Tryz.func233, Tryz.ntmps233
  go_wp2_with fail
  go_region_held3 (fun w' => w'.cell? ⟨g, 3, none⟩ = some (.int .i64 le) ∧ w'.cell? ⟨g, 2, none⟩ = some (.int .i64 n)) (go_keep) (first | (go_at_call 235; with_reducible refine Calls.mono (Hid.out (HC _ hO)) ?_; rintro e w4 ⟨rfl, hM⟩; obtain ⟨d0, d1, d2, d3, d4, d5, d6, d7, d8, d9, d10, d11, df⟩ := pmCells hM.swap))
  all_goals
    have HM := Lib.hid hM
    clear hM hO HC
    go_wp2_with fail
    go_ret
    exact ⟨rfl, HM.out.swap⟩
theorem acc3_no (hi : av < ws.length) (he : ws.getD av 0 ≠ wa) (b0 : -9223372036854775808 ≤ wa - (n + ex)) (b1 : wa - (n + ex) ≤ 9223372036854775807) (dn : Int) (hdn : (if ex = 0 then (0 : Int) else 5) = dn) (e0 : 0 ≤ ex) (s0 : -9223372036854775808 ≤ n + ex) (s1 : n + ex ≤ 9223372036854775807) (hl : lg.length < 1000000)
    (h : Own w0 F0 (blk g (pmO 4 nd n le av mo wa ex er an) :: memA T m ws lg :: L) w) :
    Calls Tryz.prog 233 #[.pointer (some ⟨g, 0, none⟩), .pointer (some ⟨m, 0, none⟩)] w fun e w' => e = .returned (.int .i64 3) ∧
      Own w0 F0 (blk g (pmO 4 nd n le av mo wa ex er an) :: memA T m ws (lg ++ [⟨3, av, wa, wa - (n + ex), false⟩]) :: L) w' := by
  have HC := fun w h => Lib.hid (take_no (w0 := w0) (F0 := F0) (T := T) (m := m) (ws := ws) (lg := lg) (w := w) (L := L) (k := g) (nx := 4) (nd := nd) (n := n) (le := le) (av := av) (mo := mo) (wa := wa) (ex := ex) (er := er) (an := an) av (n + ex) (dn) (3) hi hl he b0 b1 h)
  obtain ⟨c0, c1, c2, c3, c4, c5, c6, c7, c8, c9, c10, c11, cf⟩ := pmCells h
  have hO := h.swap.drew
  have hwr : IntKind.i64.wrap (n + ex) = n + ex := IntWalk.i64_in _ (by omega)
  have HB := fun w (h : Own w0 F0 (memA T m ws lg :: blk g (pmO 4 nd n le av mo wa ex er an) :: L) w) => Lib.hid (hdn ▸ behind_any e0 h.swap)
  clear hdn
  clear h hi hl he
  go_enter Tryz.func233, Tryz.ntmps233
  go_wp2_with fail
  go_region_held3 (fun w' => w'.cell? ⟨g, 4, none⟩ = some (.int .i64 av) ∧ w'.cell? ⟨g, 2, none⟩ = some (.int .i64 n) ∧ w'.cell? ⟨g, 7, none⟩ = some (.int .i64 ex)) (go_keep) (first | (go_at_call 237; with_reducible refine Calls.mono (Hid.out (HB _ hO)) ?_; rintro e w4 ⟨rfl, rfl⟩) | (go_at_call 235; with_reducible refine Calls.mono (Hid.out (HC _ hO)) ?_; rintro e w4 ⟨rfl, hM⟩; obtain ⟨d0, d1, d2, d3, d4, d5, d6, d7, d8, d9, d10, d11, df⟩ := pmCells hM.swap))
  all_goals
    have HM := Lib.hid hM
    clear hM hO HC
    go_wp2_with fail
    go_ret
    exact ⟨rfl, HM.out.swap⟩
theorem acc5_no (hi : le < ws.length) (he : ws.getD le 0 ≠ wa) (b0 : -9223372036854775808 ≤ wa - (-ex)) (b1 : wa - (-ex) ≤ 9223372036854775807) (s0 : -9223372036854775807 ≤ ex) (s1 : ex ≤ 9223372036854775807) (hl : lg.length < 1000000)
    (h : Own w0 F0 (blk g (pmO 6 nd n le av mo wa ex er an) :: memA T m ws lg :: L) w) :
    Calls Tryz.prog 233 #[.pointer (some ⟨g, 0, none⟩), .pointer (some ⟨m, 0, none⟩)] w fun e w' => e = .returned (.int .i64 5) ∧
      Own w0 F0 (blk g (pmO 6 nd n le av mo wa ex er an) :: memA T m ws (lg ++ [⟨3, le, wa, wa - (-ex), false⟩]) :: L) w' := by
  have HC := fun w h => Lib.hid (take_no (w0 := w0) (F0 := F0) (T := T) (m := m) (ws := ws) (lg := lg) (w := w) (L := L) (k := g) (nx := 6) (nd := nd) (n := n) (le := le) (av := av) (mo := mo) (wa := wa) (ex := ex) (er := er) (an := an) le (-ex) (0) (5) hi hl he b0 b1 h)
  obtain ⟨c0, c1, c2, c3, c4, c5, c6, c7, c8, c9, c10, c11, cf⟩ := pmCells h
  have hO := h.swap.drew
  have hwr : IntKind.i64.wrap (-ex) = -ex := IntWalk.i64_in _ (by omega)
  clear h hi hl he
  go_enter Tryz.func233, Tryz.ntmps233
  go_wp2_with fail
  go_region_held3 (fun w' => w'.cell? ⟨g, 3, none⟩ = some (.int .i64 le) ∧ w'.cell? ⟨g, 7, none⟩ = some (.int .i64 ex)) (go_keep) (first | (go_at_call 235; with_reducible refine Calls.mono (Hid.out (HC _ hO)) ?_; rintro e w4 ⟨rfl, hM⟩; obtain ⟨d0, d1, d2, d3, d4, d5, d6, d7, d8, d9, d10, d11, df⟩ := pmCells hM.swap))
  all_goals
    have HM := Lib.hid hM
    clear hM hO HC
    go_wp2_with fail
    go_ret
    exact ⟨rfl, HM.out.swap⟩
theorem acc6_any (hi : av < ws.length) (hl : lg.length < 1000000)
    (h : Own w0 F0 (blk g (pmO 7 nd n le av mo wa ex er an) :: memA T m ws lg :: L) w) :
    Calls Tryz.prog 233 #[.pointer (some ⟨g, 0, none⟩), .pointer (some ⟨m, 0, none⟩)] w fun e w' => e = .returned (.int .i64 0) ∧
      Own w0 F0 (blk g (pmO 7 nd n le av mo wa ex er an) :: memA T m (ws.set av (wrap64 (ws.getD av 0 + ex))) (lg ++ [⟨2, av, ex, wrap64 (ws.getD av 0 + ex), false⟩]) :: L) w' := by
  have HC := fun w h => Lib.hid (Add_any (w0 := w0) (F0 := F0) (T := T) (m := m) (ws := ws) (l := lg) (w := w) (L := blk g (pmO 7 nd n le av mo wa ex er an) :: L) av ex hi hl h)
  obtain ⟨c0, c1, c2, c3, c4, c5, c6, c7, c8, c9, c10, c11, cf⟩ := pmCells h
  have hO := h.swap.drew
  clear h hi hl
  go_enter Tryz.func233, Tryz.ntmps233
  go_wp2_with fail
  go_region_held3 (fun w' => w'.cell? ⟨g, 4, none⟩ = some (.int .i64 av) ∧ w'.cell? ⟨g, 7, none⟩ = some (.int .i64 ex)) (go_keep) (first | (go_at_call 173; with_reducible refine Calls.mono (Hid.out (HC _ hO)) ?_; rintro e w4 ⟨rfl, hM⟩; obtain ⟨d0, d1, d2, d3, d4, d5, d6, d7, d8, d9, d10, d11, df⟩ := pmCells hM.swap))
  have HM := Lib.hid hM
  clear hM hO HC
  go_wp2_with fail
  go_ret
  exact ⟨rfl, HM.out.swap⟩
theorem acc9_any (r : Value) (h : Own w0 F0 (blk g (pmO 0 nd n le av mo wa ex er an) :: L) w) :
    Calls Tryz.prog 233 #[.pointer (some ⟨g, 0, none⟩), r] w fun e w' => e = .returned (.int .i64 0) ∧ w = w' := by
  obtain ⟨c0, c1, c2, c3, c4, c5, c6, c7, c8, c9, c10, c11, cf⟩ := pmCells h
  clear h
  go_enter Tryz.func233, Tryz.ntmps233
  go_wp2_with fail
  go_ret
  exact ⟨rfl, rfl⟩
theorem pStep_go (r : Value) (nx nn : Int) (wa' ex' er' an' : Int) (M : Asn)
    (hK : Calls Tryz.prog 233 #[.pointer (some ⟨g, 0, none⟩), r] w fun e w' => e = .returned (.int .i64 nn) ∧ Own w0 F0 (blk g (pmO nx nd n le av mo wa' ex' er' an') :: M :: L) w')
    {L2 : List Asn} (h : Own w0 F0 (blk g (pmO nx nd n le av mo wa ex er an) :: L2) w) :
    Calls Tryz.prog 232 #[.pointer (some ⟨g, 0, none⟩), r] w fun e w' => e = .returned (.bool (nn == 0)) ∧ Own w0 F0 (blk g (pmO nn nd n le av mo wa' ex' er' an') :: M :: L) w' := by
  have c0 : w.cell? ⟨g, 0, none⟩ = some (.int .i64 nx) := h.cell (i := 0) rfl
  have H1 := Lib.hid hK
  have fe : ∀ w : World, (binOp .eql 160 (.pointer (some ⟨g, 0, none⟩)) (.pointer none)).run Tryz.prog w = .ok (.bool false) w := fun w => by kernel_rfl
  clear h hK
  go_enter Tryz.func232, Tryz.ntmps232
  go_wp2_with fail
  refine H1.out.mono ?_
  rintro e w1 ⟨rfl, hO⟩
  obtain ⟨d0, d1, d2, d3, d4, d5, d6, d7, d8, d9, d10, d11, df⟩ := pmCells hO
  have h2 := Lib.hid (hO.set 0 (.int .i64 nn))
  clear H1 hO c0
  go_wp2_with fail
  go_ret
  exact ⟨rfl, h2.out⟩
end
end Go.Proofs.YtjohngpbggendaaGreat
end
section
/- The machine that acquires, alone. No program in it. -/
namespace Go.Proofs.YtjohngpbggendaaGreat
open Go.RowKit
set_option linter.unusedVariables false
/-- What it makes of words, alone: n accesses, its answer, the words. -/
structure PAlone (p : PP) (ws ws' : List Int) (n : Nat) (s : PS) : Prop where
  n2 : 2 ≤ n
  n5 : n ≤ 5
  nine : s.at_ = 9
  refused : s.r = true ↔ ws.getD p.le 0 < p.n ∧ ws.getD p.av 0 < p.n
  same : s.r = true → ws' = ws
  took : s.r = false → ws'.getD p.av 0 + ws'.getD p.le 0 = ws.getD p.av 0 + ws.getD p.le 0 - p.n
  others : ∀ k, k ≠ p.av → k ≠ p.le → ws'.getD k 0 = ws.getD k 0
  len : ws'.length = ws.length
variable {p : PP} {ws : List Int} {lg : List Acc} {B : Int}
end Go.Proofs.YtjohngpbggendaaGreat
end
