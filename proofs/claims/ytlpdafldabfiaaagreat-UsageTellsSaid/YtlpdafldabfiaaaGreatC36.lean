/- Texts of elder layers, one behind the other: AddRef. -/
import Derived.Test.YtlpdafldabfiaaaGreatC12
import Derived.Test.YtlpdafldabfiaaaGreatC25
import Derived.Deep.RegionWith
import Derived.BigQuiet
import Derived.Deep.QuietTactic
import Derived.StillTailTactics
section
namespace Go.Proofs.YtlpdafldabfiaaaGreat
open Go.ChangeShapes Go.WideShapes Go.ChangeAt Go.RowKit Go.Shelf
set_option linter.unusedVariables false
set_option maxRecDepth 100000
variable {w0 w w' : World} {F0 : Nat → Prop} {L : List Asn} {T : TypeId} {m : Nat} {ws : List Int} {lg : List Acc}
def rO (b S g d x a l i wv v : Int) : Obj := .cells #[.int .i64 b, .int .i64 S, .int .i64 g, .int .i64 d, .int .i64 x, .int .i64 a, .int .i64 l, .int .i64 i, .int .i64 wv, .int .i64 v] 154 (0, 0)
theorem rCells {k : Nat} {b S g d x a l i wv v : Int} (h : Own w0 F0 (blk k (rO b S g d x a l i wv v) :: L) w) :
    w.cell? ⟨k, 0, none⟩ = some (.int .i64 b) ∧ w.cell? ⟨k, 1, none⟩ = some (.int .i64 S) ∧ w.cell? ⟨k, 2, none⟩ = some (.int .i64 g) ∧ w.cell? ⟨k, 3, none⟩ = some (.int .i64 d) ∧ w.cell? ⟨k, 4, none⟩ = some (.int .i64 x) ∧ w.cell? ⟨k, 5, none⟩ = some (.int .i64 a) ∧ w.cell? ⟨k, 6, none⟩ = some (.int .i64 l) ∧ w.cell? ⟨k, 7, none⟩ = some (.int .i64 i) ∧ w.cell? ⟨k, 8, none⟩ = some (.int .i64 wv) ∧ w.cell? ⟨k, 9, none⟩ = some (.int .i64 v) ∧ ∀ j, w.frozen? ⟨k, j, none⟩ = false :=
  ⟨h.cell (i := 0) rfl, h.cell (i := 1) rfl, h.cell (i := 2) rfl, h.cell (i := 3) rfl, h.cell (i := 4) rfl, h.cell (i := 5) rfl, h.cell (i := 6) rfl, h.cell (i := 7) rfl, h.cell (i := 8) rfl, h.cell (i := 9) rfl, fun j => h.unfrozen⟩
section
variable {k : Nat} {b S g d x a l i wv v : Int} (h : Own w0 F0 (blk k (rO b S g d x a l i wv v) :: L) w)
include h
theorem rSet4 (z : Int) : Own w0 F0 (blk k (rO b S g d z a l i wv v) :: L) (w.setCell ⟨k, 4, none⟩ (.int .i64 z)) := Own.set h 4 _
theorem rSet5 (z : Int) : Own w0 F0 (blk k (rO b S g d x z l i wv v) :: L) (w.setCell ⟨k, 5, none⟩ (.int .i64 z)) := Own.set h 5 _
theorem rSet6 (z : Int) : Own w0 F0 (blk k (rO b S g d x a z i wv v) :: L) (w.setCell ⟨k, 6, none⟩ (.int .i64 z)) := Own.set h 6 _
theorem rSet7 (z : Int) : Own w0 F0 (blk k (rO b S g d x a l z wv v) :: L) (w.setCell ⟨k, 7, none⟩ (.int .i64 z)) := Own.set h 7 _
theorem rSet8 (z : Int) : Own w0 F0 (blk k (rO b S g d x a l i z v) :: L) (w.setCell ⟨k, 8, none⟩ (.int .i64 z)) := Own.set h 8 _
theorem rSet9 (z : Int) : Own w0 F0 (blk k (rO b S g d x a l i wv z) :: L) (w.setCell ⟨k, 9, none⟩ (.int .i64 z)) := Own.set h 9 _
end
theorem rLoad_y6 (i : Nat) (j y : Int) (hj : j = (i : Int)) (hy : ws.getD i 0 = y) (hi : i < ws.length) (hl : lg.length < 1000000) (h : Own w0 F0 (memA T m ws lg :: L) w) :
    Calls Tryz.prog 105 #[.pointer (some ⟨m, 0, none⟩), .int .i64 j] w fun e w' =>
      e = .returned (.int .i64 y) ∧ Own w0 F0 (memA T m ws (lg ++ [⟨1, j, y, 0, false⟩]) :: L) w' := by
  subst hj hy; exact rLoad_any i hi hl h
theorem rAdd_y (i : Nat) (j d y : Int) (hj : j = (i : Int)) (hy : ws.getD i 0 = y) (hi : i < ws.length) (hn : ws.length ≤ 1000000) (hl : lg.length < 1000000) (h : Own w0 F0 (memA T m ws lg :: L) w) :
    Calls Tryz.prog 79 #[.pointer (some ⟨m, 0, none⟩), .int .i64 j, .int .i64 d] w fun e w' =>
      e = .returned (.int .i64 (wrap64 (y + d))) ∧ Own w0 F0 (memA T m (ws.set i (wrap64 (y + d))) (lg ++ [⟨2, j, d, wrap64 (y + d), false⟩]) :: L) w' := by
  subst hj hy; exact rAdd_any i d hi hn hl h
theorem rCas_y (i : Nat) (j o x : Int) (hj : j = (i : Int)) (hi : i < ws.length) (hn : ws.length ≤ 1000000) (hl : lg.length < 1000000) (he : ws.getD i 0 = o) (h : Own w0 F0 (memA T m ws lg :: L) w) :
    Calls Tryz.prog 114 #[.pointer (some ⟨m, 0, none⟩), .int .i64 j, .int .i64 o, .int .i64 x] w fun e w' =>
      e = .returned (.bool true) ∧ Own w0 F0 (memA T m (ws.set i x) (lg ++ [⟨3, j, o, x, true⟩]) :: L) w' := by
  subst hj; exact rCas_yes i o x hi hn hl he h
theorem rCas_n (i : Nat) (j o x : Int) (hj : j = (i : Int)) (hi : i < ws.length) (hl : lg.length < 1000000) (he : ws.getD i 0 ≠ o) (h : Own w0 F0 (memA T m ws lg :: L) w) :
    Calls Tryz.prog 114 #[.pointer (some ⟨m, 0, none⟩), .int .i64 j, .int .i64 o, .int .i64 x] w fun e w' =>
      e = .returned (.bool false) ∧ Own w0 F0 (memA T m ws (lg ++ [⟨3, j, o, x, false⟩]) :: L) w' := by
  subst hj; exact rCas_no i o x hi hl he h
theorem rMiss_yes {k : Nat} {b S g d x a l i wv v : Int} (hl : l < S) (h : Own w0 F0 (blk k (rO b S g d x a l i wv v) :: L) w) :
    Calls Tryz.prog 121 #[.pointer (some ⟨k, 0, none⟩)] w fun e w' => e = .returned (.tuple #[]) ∧ Own w0 F0 (blk k (rO b S g d x 8 l i wv v) :: L) w' := by
  have H1 := Lib.hid h
  have hd : decide (l < S) = true := by simp; omega
  obtain ⟨c0, c1, c2, c3, c4, c5, c6, c7, c8, c9, f⟩ := rCells h
  clear h hl
  go_enter Tryz.func121, Tryz.ntmps121
  go_wp2_with fail
  go_quiet (fail)
  clear c0 c1 c2 c3 c4 c5 c6 c7 c8 c9 f
  have Hw1 := Lib.hid (H1.out.drewN nq)
  generalize World.drewN w nq = w1 at Hw1 ⊢
  obtain ⟨c0, c1, c2, c3, c4, c5, c6, c7, c8, c9, f⟩ := rCells Hw1.out
  go_wp2_with fail
  go_end0
  exact ⟨rfl, rSet5 Hw1.out 8⟩
theorem rMiss_no {k : Nat} {b S g d x a l i wv v : Int} (hl : ¬ l < S) (x0 : -9223372036854775808 ≤ x) (x1 : x ≤ 9223372036854775807) (h : Own w0 F0 (blk k (rO b S g d x a l i wv v) :: L) w) :
    Calls Tryz.prog 121 #[.pointer (some ⟨k, 0, none⟩)] w fun e w' => e = .returned (.tuple #[]) ∧ Own w0 F0 (blk k (rO b S g d (nx (dr x)) 0 l i wv v) :: L) w' := by
  have H1 := Lib.hid h
  have hd : decide (l < S) = false := by simp; omega
  obtain ⟨c0, c1, c2, c3, c4, c5, c6, c7, c8, c9, f⟩ := rCells h
  clear h hl
  go_enter Tryz.func121, Tryz.ntmps121
  go_wp2_with fail
  go_quiet (fail)
  clear c0 c1 c2 c3 c4 c5 c6 c7 c8 c9 f
  have Hw1 := Lib.hid (H1.out.drewN nq)
  generalize World.drewN w nq = w1 at Hw1 ⊢
  obtain ⟨c0, c1, c2, c3, c4, c5, c6, c7, c8, c9, f⟩ := rCells Hw1.out
  go_wp2_with fail
  refine (rNext_any x x0 x1 _).mono ?_
  rintro e w2 ⟨rfl, rfl⟩
  go_wp2_with fail
  go_end0
  exact ⟨rfl, rSet5 (rSet4 Hw1.out (nx (dr x))) 0⟩
set_option maxHeartbeats 4000000 in
theorem rStep_0 {k : Nat} (b i : Nat) (S g d x l wv v : Int) (hb : b ≤ 1000) (hi : i ≤ 8) (hn : ws.length ≤ 1000000) (hg : lg.length < 1000000) (y : Int) (hx0 : 0 ≤ x) (hx1 : x ≤ 4294967295) (hl : b + 3 < ws.length) (hy : ws.getD (b + 3) 0 = y) (hy0 : 1 ≤ y) (hy1 : y ≤ 1048576) (h : Own w0 F0 (blk k (rO b S g d x 0 l i wv v) :: memA T m ws lg :: L) w) :
    Calls Tryz.prog 86 #[.pointer (some ⟨k, 0, none⟩), .pointer (some ⟨m, 0, none⟩)] w fun e w' => e = .returned (.bool false) ∧ Own w0 F0 (blk k (rO b S g d x 1 y (x % y) wv v) :: memA T m ws (lg ++ [⟨1, (b : Int) + 3, y, 0, false⟩]) :: L) w' := by
  have H1 := Lib.hid h
  obtain ⟨c0, c1, c2, c3, c4, c5, c6, c7, c8, c9, f⟩ := rCells h
  clear h
  have B0 : (0 : Int) ≤ b := by omega
  have B1 : (b : Int) ≤ 1000 := by omega
  have I0 : (0 : Int) ≤ i := by omega
  have I1 : (i : Int) ≤ 8 := by omega
  have HL := fun L2 w h => Lib.hid (rLoad_y6 (w0 := w0) (F0 := F0) (L := L2) (T := T) (m := m) (ws := ws) (lg := lg) (w := w) (b + 3) ((b : Int) + 3) y (by omega) hy hl hg h)
  clear hl hg hy
  go_enter Tryz.func86, Tryz.ntmps86
  go_wp2_with fail
  go_quiet (fail)
  clear c0 c1 c2 c3 c4 c5 c6 c7 c8 c9 f
  have Hw1 := Lib.hid (H1.out.drewN nq)
  generalize World.drewN w nq = w1 at Hw1 ⊢
  obtain ⟨c0, c1, c2, c3, c4, c5, c6, c7, c8, c9, f⟩ := rCells Hw1.out
  have H2 := HL _ _ Hw1.out.swap
  go_wp2_with fail
  refine H2.out.mono ?_
  rintro e w2 ⟨rfl, hO⟩
  clear c0 c1 c2 c3 c4 c5 c6 c7 c8 c9 f
  obtain ⟨c0, c1, c2, c3, c4, c5, c6, c7, c8, c9, f⟩ := rCells hO.swap
  have H3 := Lib.hid (rSet6 hO.swap y)
  clear H2 HL hO
  go_wp2_with fail
  clear c0 c1 c2 c3 c4 c5 c6 c7 c8 c9 f
  generalize World.setCell w2 ⟨k, 6, none⟩ (Value.int IntKind.i64 y) = w3 at H3 ⊢
  obtain ⟨c0, c1, c2, c3, c4, c5, c6, c7, c8, c9, f⟩ := rCells H3.out
  go_region_with (first | (go_at_call 120; refine (rPick_any x y hx0 hx1 hy0 hy1 _).mono ?_; rintro e w5 ⟨rfl, rfl⟩))
  all_goals
    clear c0 c1 c2 c3 c4 c5 c6 c7 c8 c9 f
    have H4 := Lib.hid (rSet7 H3.out (x % y)).drew
    generalize World.drew _ = w4 at H4 ⊢
    obtain ⟨c0, c1, c2, c3, c4, c5, c6, c7, c8, c9, f⟩ := rCells H4.out
    go_wp2_with fail
    go_ret
    exact ⟨rfl, rSet5 H4.out 1⟩
set_option maxHeartbeats 4000000 in
theorem rStep_1y {k : Nat} (b i : Nat) (S g d x l wv v : Int) (hb : b ≤ 1000) (hi : i ≤ 8) (hn : ws.length ≤ 1000000) (hg : lg.length < 1000000) (y : Int) (hl : b + 4 + i < ws.length) (hy : ws.getD (b + 4 + i) 0 = y) (hyI : -9223372036854775808 ≤ y ∧ y ≤ 9223372036854775807) (g0 : 1 ≤ g) (g1 : g ≤ 1048576) (d0 : -1048576 ≤ d) (d1 : d ≤ 1048576) (hz : -g < pval y + d ∧ pval y + d < g) (h : Own w0 F0 (blk k (rO b S g d x 1 l i wv v) :: memA T m ws lg :: L) w) :
    Calls Tryz.prog 86 #[.pointer (some ⟨k, 0, none⟩), .pointer (some ⟨m, 0, none⟩)] w fun e w' => e = .returned (.bool false) ∧ Own w0 F0 (blk k (rO b S g d x 2 l i y (pval y + d)) :: memA T m ws (lg ++ [⟨1, (b : Int) + 4 + i, y, 0, false⟩]) :: L) w' := by
  have H1 := Lib.hid h
  obtain ⟨c0, c1, c2, c3, c4, c5, c6, c7, c8, c9, f⟩ := rCells h
  clear h
  have B0 : (0 : Int) ≤ b := by omega
  have B1 : (b : Int) ≤ 1000 := by omega
  have I0 : (0 : Int) ≤ i := by omega
  have I1 : (i : Int) ≤ 8 := by omega
  have hpv := pval_bd y
  have HV := fun w => Lib.hid (rValue_any y hyI.1 hyI.2 w)
  have HL := fun L2 w h => Lib.hid (rLoad_y6 (w0 := w0) (F0 := F0) (L := L2) (T := T) (m := m) (ws := ws) (lg := lg) (w := w) (b + 4 + i) ((b : Int) + 4 + i) y (by omega) hy hl hg h)
  clear hl hg hy
  generalize pval y = pv at *
  have E := IntWalk.i64_in (pv + d) (by omega)
  have g2 : decide (-g < pv + d) = true := by simp; omega
  have g3 : decide (pv + d < g) = true := by simp; omega
  clear hz
  go_enter Tryz.func86, Tryz.ntmps86
  go_wp2_with fail
  go_quiet (fail)
  clear c0 c1 c2 c3 c4 c5 c6 c7 c8 c9 f
  have Hw1 := Lib.hid (H1.out.drewN nq)
  generalize World.drewN w nq = w1 at Hw1 ⊢
  obtain ⟨c0, c1, c2, c3, c4, c5, c6, c7, c8, c9, f⟩ := rCells Hw1.out
  have HC := HL _ _ Hw1.out.swap
  go_wp2_with fail
  refine HC.out.mono ?_
  rintro e w2 ⟨rfl, hO⟩
  have H2 := Lib.hid hO.swap
  clear c0 c1 c2 c3 c4 c5 c6 c7 c8 c9 f HC hO
  obtain ⟨c0, c1, c2, c3, c4, c5, c6, c7, c8, c9, f⟩ := rCells H2.out
  go_wp2_with fail
  have H3 := Lib.hid (rSet8 H2.out y)
  clear c0 c1 c2 c3 c4 c5 c6 c7 c8 c9 f
  generalize World.setCell w2 ⟨k, 8, none⟩ (Value.int IntKind.i64 y) = w3 at H3 ⊢
  obtain ⟨c0, c1, c2, c3, c4, c5, c6, c7, c8, c9, f⟩ := rCells H3.out
  go_region_with (first | (go_at_call 93; refine (HV _).out.mono ?_; rintro e w5 ⟨rfl, rfl⟩))
  all_goals
    have H4 := Lib.hid ((rSet9 H3.out (pv + d)).drew)
    clear c0 c1 c2 c3 c4 c5 c6 c7 c8 c9 f
    generalize World.drew _ = w4 at H4 ⊢
    obtain ⟨c0, c1, c2, c3, c4, c5, c6, c7, c8, c9, f⟩ := rCells H4.out
    go_wp2_with fail
    have H5 := Lib.hid (rSet5 H4.out 3)
    clear c0 c1 c2 c3 c4 c5 c6 c7 c8 c9 f
    generalize World.setCell w4 ⟨k, 5, none⟩ (Value.int IntKind.i64 3) = w5 at H5 ⊢
    obtain ⟨c0, c1, c2, c3, c4, c5, c6, c7, c8, c9, f⟩ := rCells H5.out
    go_quiet (fail)
    have H6 := Lib.hid (H5.out.drewN nq)
    clear c0 c1 c2 c3 c4 c5 c6 c7 c8 c9 f
    generalize World.drewN w5 nq = w6 at H6 ⊢
    obtain ⟨c0, c1, c2, c3, c4, c5, c6, c7, c8, c9, f⟩ := rCells H6.out
    go_wp2_with fail
    go_ret
    exact ⟨rfl, rSet5 H6.out 2⟩
set_option maxHeartbeats 4000000 in
theorem rStep_1n {k : Nat} (b i : Nat) (S g d x l wv v : Int) (hb : b ≤ 1000) (hi : i ≤ 8) (hn : ws.length ≤ 1000000) (hg : lg.length < 1000000) (y : Int) (hl : b + 4 + i < ws.length) (hy : ws.getD (b + 4 + i) 0 = y) (hyI : -9223372036854775808 ≤ y ∧ y ≤ 9223372036854775807) (g0 : 1 ≤ g) (g1 : g ≤ 1048576) (d0 : -1048576 ≤ d) (d1 : d ≤ 1048576) (hz : ¬ (-g < pval y + d ∧ pval y + d < g)) (h : Own w0 F0 (blk k (rO b S g d x 1 l i wv v) :: memA T m ws lg :: L) w) :
    Calls Tryz.prog 86 #[.pointer (some ⟨k, 0, none⟩), .pointer (some ⟨m, 0, none⟩)] w fun e w' => e = .returned (.bool false) ∧ Own w0 F0 (blk k (rO b S g d x 3 l i y (pval y + d)) :: memA T m ws (lg ++ [⟨1, (b : Int) + 4 + i, y, 0, false⟩]) :: L) w' := by
  have H1 := Lib.hid h
  obtain ⟨c0, c1, c2, c3, c4, c5, c6, c7, c8, c9, f⟩ := rCells h
  clear h
  have B0 : (0 : Int) ≤ b := by omega
  have B1 : (b : Int) ≤ 1000 := by omega
  have I0 : (0 : Int) ≤ i := by omega
  have I1 : (i : Int) ≤ 8 := by omega
  have hpv := pval_bd y
  have HV := fun w => Lib.hid (rValue_any y hyI.1 hyI.2 w)
  have HL := fun L2 w h => Lib.hid (rLoad_y6 (w0 := w0) (F0 := F0) (L := L2) (T := T) (m := m) (ws := ws) (lg := lg) (w := w) (b + 4 + i) ((b : Int) + 4 + i) y (by omega) hy hl hg h)
  clear hl hg hy
  generalize pval y = pv at *
  have E := IntWalk.i64_in (pv + d) (by omega)
  go_enter Tryz.func86, Tryz.ntmps86
  go_wp2_with fail
  go_quiet (fail)
  clear c0 c1 c2 c3 c4 c5 c6 c7 c8 c9 f
  have Hw1 := Lib.hid (H1.out.drewN nq)
  generalize World.drewN w nq = w1 at Hw1 ⊢
  obtain ⟨c0, c1, c2, c3, c4, c5, c6, c7, c8, c9, f⟩ := rCells Hw1.out
  have HC := HL _ _ Hw1.out.swap
  go_wp2_with fail
  refine HC.out.mono ?_
  rintro e w2 ⟨rfl, hO⟩
  have H2 := Lib.hid hO.swap
  clear c0 c1 c2 c3 c4 c5 c6 c7 c8 c9 f HC hO
  obtain ⟨c0, c1, c2, c3, c4, c5, c6, c7, c8, c9, f⟩ := rCells H2.out
  go_wp2_with fail
  have H3 := Lib.hid (rSet8 H2.out y)
  clear c0 c1 c2 c3 c4 c5 c6 c7 c8 c9 f
  generalize World.setCell w2 ⟨k, 8, none⟩ (Value.int IntKind.i64 y) = w3 at H3 ⊢
  obtain ⟨c0, c1, c2, c3, c4, c5, c6, c7, c8, c9, f⟩ := rCells H3.out
  go_region_with (first | (go_at_call 93; refine (HV _).out.mono ?_; rintro e w5 ⟨rfl, rfl⟩))
  all_goals
    have H4 := Lib.hid ((rSet9 H3.out (pv + d)).drew)
    clear c0 c1 c2 c3 c4 c5 c6 c7 c8 c9 f
    generalize World.drew _ = w4 at H4 ⊢
    obtain ⟨c0, c1, c2, c3, c4, c5, c6, c7, c8, c9, f⟩ := rCells H4.out
    go_wp2_with fail
    have H5 := Lib.hid (rSet5 H4.out 3)
    clear c0 c1 c2 c3 c4 c5 c6 c7 c8 c9 f
    generalize World.setCell w4 ⟨k, 5, none⟩ (Value.int IntKind.i64 3) = w5 at H5 ⊢
    obtain ⟨c0, c1, c2, c3, c4, c5, c6, c7, c8, c9, f⟩ := rCells H5.out
    by_cases hz2 : -g < pv + d
    · have g2 : decide (-g < pv + d) = true := by simp; omega
      have g3 : decide (pv + d < g) = false := by simp; omega
      clear hz hz2
      go_quiet (fail)
      have H6 := Lib.hid (H5.out.drewN nq)
      clear c0 c1 c2 c3 c4 c5 c6 c7 c8 c9 f
      generalize World.drewN w5 nq = w6 at H6 ⊢
      obtain ⟨c0, c1, c2, c3, c4, c5, c6, c7, c8, c9, f⟩ := rCells H6.out
      go_wp2_with fail
      go_ret
      exact ⟨rfl, H6.out⟩
    · have g2 : decide (-g < pv + d) = false := by simp; omega
      clear hz hz2
      go_quiet (fail)
      have H6 := Lib.hid (H5.out.drewN nq)
      clear c0 c1 c2 c3 c4 c5 c6 c7 c8 c9 f
      generalize World.drewN w5 nq = w6 at H6 ⊢
      obtain ⟨c0, c1, c2, c3, c4, c5, c6, c7, c8, c9, f⟩ := rCells H6.out
      go_wp2_with fail
      go_ret
      exact ⟨rfl, H6.out⟩
set_option maxHeartbeats 4000000 in
theorem rStep_2y {k : Nat} (b i : Nat) (S g d x l wv v : Int) (hb : b ≤ 1000) (hi : i ≤ 8) (hn : ws.length ≤ 1000000) (hg : lg.length < 1000000) (hl : b + 4 + i < ws.length) (hwI : -9223372036854775808 ≤ wv ∧ wv ≤ 9223372036854775807) (v0 : -2147483648 ≤ v) (v1 : v ≤ 2147483647) (he : ws.getD (b + 4 + i) 0 = wv) (h : Own w0 F0 (blk k (rO b S g d x 2 l i wv v) :: memA T m ws lg :: L) w) :
    Calls Tryz.prog 86 #[.pointer (some ⟨k, 0, none⟩), .pointer (some ⟨m, 0, none⟩)] w fun e w' => e = .returned (.bool true) ∧ Own w0 F0 (blk k (rO b S g d x 9 l i wv v) :: memA T m (ws.set (b + 4 + i) (nxt wv v)) (lg ++ [⟨3, (b : Int) + 4 + i, wv, nxt wv v, true⟩]) :: L) w' := by
  have H1 := Lib.hid h
  obtain ⟨c0, c1, c2, c3, c4, c5, c6, c7, c8, c9, f⟩ := rCells h
  clear h
  have B0 : (0 : Int) ≤ b := by omega
  have B1 : (b : Int) ≤ 1000 := by omega
  have I0 : (0 : Int) ≤ i := by omega
  have I1 : (i : Int) ≤ 8 := by omega
  have HN := fun w => Lib.hid (rNext_yes wv v (by omega) (by omega) hwI.1 hwI.2 w)
  have HNx : sg (pmk ((pver wv + 1) % 4294967296) v) = nxt wv v := rfl
  rw [HNx] at HN
  clear HNx
  generalize nxt wv v = nz at *
  have HL := fun L2 w h => Lib.hid (rCas_y (w0 := w0) (F0 := F0) (L := L2) (T := T) (m := m) (ws := ws) (lg := lg) (w := w) (b + 4 + i) ((b : Int) + 4 + i) wv nz (by omega) hl hn hg he h)
  clear hg hl
  clear he
  go_enter Tryz.func86, Tryz.ntmps86
  go_wp2_with fail
  go_quiet (fail)
  clear c0 c1 c2 c3 c4 c5 c6 c7 c8 c9 f
  have Hw1 := Lib.hid (H1.out.drewN nq)
  generalize World.drewN w nq = w1 at Hw1 ⊢
  obtain ⟨c0, c1, c2, c3, c4, c5, c6, c7, c8, c9, f⟩ := rCells Hw1.out
  go_wp2_with fail
  go_quiet ((go_at_call 118; refine (HN _).out.mono ?_; rintro e w' ⟨rfl, rfl⟩; exact ⟨rfl, _, rfl⟩))
  have H2 := Lib.hid (Hw1.out.drewN nq)
  clear c0 c1 c2 c3 c4 c5 c6 c7 c8 c9 f
  generalize World.drewN w1 nq = w2 at H2 ⊢
  obtain ⟨c0, c1, c2, c3, c4, c5, c6, c7, c8, c9, f⟩ := rCells H2.out
  have HC := HL _ _ H2.out.swap
  go_wp2_with fail
  refine HC.out.mono ?_
  rintro e w3 ⟨rfl, hO⟩
  have H3 := Lib.hid hO.swap
  clear c0 c1 c2 c3 c4 c5 c6 c7 c8 c9 f HC hO
  obtain ⟨c0, c1, c2, c3, c4, c5, c6, c7, c8, c9, f⟩ := rCells H3.out
  go_wp2_with fail
  go_ret
  exact ⟨rfl, rSet5 H3.out 9⟩
set_option maxHeartbeats 4000000 in
theorem rStep_2nmy {k : Nat} (b i : Nat) (S g d x l wv v : Int) (hb : b ≤ 1000) (hi : i ≤ 8) (hn : ws.length ≤ 1000000) (hg : lg.length < 1000000) (hl : b + 4 + i < ws.length) (hwI : -9223372036854775808 ≤ wv ∧ wv ≤ 9223372036854775807) (v0 : -2147483648 ≤ v) (v1 : v ≤ 2147483647) (he : ws.getD (b + 4 + i) 0 ≠ wv) (ll : l < S) (h : Own w0 F0 (blk k (rO b S g d x 2 l i wv v) :: memA T m ws lg :: L) w) :
    Calls Tryz.prog 86 #[.pointer (some ⟨k, 0, none⟩), .pointer (some ⟨m, 0, none⟩)] w fun e w' => e = .returned (.bool false) ∧ Own w0 F0 (blk k (rO b S g d x 8 l i wv v) :: memA T m ws (lg ++ [⟨3, (b : Int) + 4 + i, wv, nxt wv v, false⟩]) :: L) w' := by
  have H1 := Lib.hid h
  obtain ⟨c0, c1, c2, c3, c4, c5, c6, c7, c8, c9, f⟩ := rCells h
  clear h
  have B0 : (0 : Int) ≤ b := by omega
  have B1 : (b : Int) ≤ 1000 := by omega
  have I0 : (0 : Int) ≤ i := by omega
  have I1 : (i : Int) ≤ 8 := by omega
  have HM := fun L2 w h => rMiss_yes (k := k) (b := b) (g := g) (d := d) (a := 2) (i := i) (wv := wv) (v := v) (w0 := w0) (F0 := F0) (L := L2) (w := w) (S := S) (x := x) (l := l) ll h
  clear ll
  have HN := fun w => Lib.hid (rNext_yes wv v (by omega) (by omega) hwI.1 hwI.2 w)
  have HNx : sg (pmk ((pver wv + 1) % 4294967296) v) = nxt wv v := rfl
  rw [HNx] at HN
  clear HNx
  generalize nxt wv v = nz at *
  have HL := fun L2 w h => Lib.hid (rCas_n (w0 := w0) (F0 := F0) (L := L2) (T := T) (m := m) (ws := ws) (lg := lg) (w := w) (b + 4 + i) ((b : Int) + 4 + i) wv nz (by omega) hl hg he h)
  clear hg hl
  clear he
  go_enter Tryz.func86, Tryz.ntmps86
  go_wp2_with fail
  go_quiet (fail)
  clear c0 c1 c2 c3 c4 c5 c6 c7 c8 c9 f
  have Hw1 := Lib.hid (H1.out.drewN nq)
  generalize World.drewN w nq = w1 at Hw1 ⊢
  obtain ⟨c0, c1, c2, c3, c4, c5, c6, c7, c8, c9, f⟩ := rCells Hw1.out
  go_wp2_with fail
  go_quiet ((go_at_call 118; refine (HN _).out.mono ?_; rintro e w' ⟨rfl, rfl⟩; exact ⟨rfl, _, rfl⟩))
  have H2 := Lib.hid (Hw1.out.drewN nq)
  clear c0 c1 c2 c3 c4 c5 c6 c7 c8 c9 f
  generalize World.drewN w1 nq = w2 at H2 ⊢
  obtain ⟨c0, c1, c2, c3, c4, c5, c6, c7, c8, c9, f⟩ := rCells H2.out
  have HC := HL _ _ H2.out.swap
  go_wp2_with fail
  refine HC.out.mono ?_
  rintro e w3 ⟨rfl, hO⟩
  have H3 := Lib.hid hO.swap
  clear c0 c1 c2 c3 c4 c5 c6 c7 c8 c9 f HC hO
  obtain ⟨c0, c1, c2, c3, c4, c5, c6, c7, c8, c9, f⟩ := rCells H3.out
  have HM2 := Lib.hid (HM _ _ H3.out)
  go_wp2_with fail
  refine HM2.out.mono ?_
  rintro e w8 ⟨rfl, hO⟩
  have H8 := Lib.hid hO
  clear c0 c1 c2 c3 c4 c5 c6 c7 c8 c9 f hO HM2
  obtain ⟨c0, c1, c2, c3, c4, c5, c6, c7, c8, c9, f⟩ := rCells H8.out
  go_wp2_with fail
  go_ret
  exact ⟨rfl, H8.out⟩
set_option maxHeartbeats 4000000 in
theorem rStep_2nmn {k : Nat} (b i : Nat) (S g d x l wv v : Int) (hb : b ≤ 1000) (hi : i ≤ 8) (hn : ws.length ≤ 1000000) (hg : lg.length < 1000000) (hl : b + 4 + i < ws.length) (hwI : -9223372036854775808 ≤ wv ∧ wv ≤ 9223372036854775807) (v0 : -2147483648 ≤ v) (v1 : v ≤ 2147483647) (he : ws.getD (b + 4 + i) 0 ≠ wv) (ll : ¬ l < S) (x0 : -9223372036854775808 ≤ x) (x1 : x ≤ 9223372036854775807) (h : Own w0 F0 (blk k (rO b S g d x 2 l i wv v) :: memA T m ws lg :: L) w) :
    Calls Tryz.prog 86 #[.pointer (some ⟨k, 0, none⟩), .pointer (some ⟨m, 0, none⟩)] w fun e w' => e = .returned (.bool false) ∧ Own w0 F0 (blk k (rO b S g d (nx (dr x)) 0 l i wv v) :: memA T m ws (lg ++ [⟨3, (b : Int) + 4 + i, wv, nxt wv v, false⟩]) :: L) w' := by
  have H1 := Lib.hid h
  obtain ⟨c0, c1, c2, c3, c4, c5, c6, c7, c8, c9, f⟩ := rCells h
  clear h
  have B0 : (0 : Int) ≤ b := by omega
  have B1 : (b : Int) ≤ 1000 := by omega
  have I0 : (0 : Int) ≤ i := by omega
  have I1 : (i : Int) ≤ 8 := by omega
  have HM := fun L2 w h => rMiss_no (k := k) (b := b) (g := g) (d := d) (a := 2) (i := i) (wv := wv) (v := v) (w0 := w0) (F0 := F0) (L := L2) (w := w) (S := S) (x := x) (l := l) ll x0 x1 h
  clear ll
  have HN := fun w => Lib.hid (rNext_yes wv v (by omega) (by omega) hwI.1 hwI.2 w)
  have HNx : sg (pmk ((pver wv + 1) % 4294967296) v) = nxt wv v := rfl
  rw [HNx] at HN
  clear HNx
  generalize nxt wv v = nz at *
  have HL := fun L2 w h => Lib.hid (rCas_n (w0 := w0) (F0 := F0) (L := L2) (T := T) (m := m) (ws := ws) (lg := lg) (w := w) (b + 4 + i) ((b : Int) + 4 + i) wv nz (by omega) hl hg he h)
  clear hg hl
  clear he
  go_enter Tryz.func86, Tryz.ntmps86
  go_wp2_with fail
  go_quiet (fail)
  clear c0 c1 c2 c3 c4 c5 c6 c7 c8 c9 f
  have Hw1 := Lib.hid (H1.out.drewN nq)
  generalize World.drewN w nq = w1 at Hw1 ⊢
  obtain ⟨c0, c1, c2, c3, c4, c5, c6, c7, c8, c9, f⟩ := rCells Hw1.out
  go_wp2_with fail
  go_quiet ((go_at_call 118; refine (HN _).out.mono ?_; rintro e w' ⟨rfl, rfl⟩; exact ⟨rfl, _, rfl⟩))
  have H2 := Lib.hid (Hw1.out.drewN nq)
  clear c0 c1 c2 c3 c4 c5 c6 c7 c8 c9 f
  generalize World.drewN w1 nq = w2 at H2 ⊢
  obtain ⟨c0, c1, c2, c3, c4, c5, c6, c7, c8, c9, f⟩ := rCells H2.out
  have HC := HL _ _ H2.out.swap
  go_wp2_with fail
  refine HC.out.mono ?_
  rintro e w3 ⟨rfl, hO⟩
  have H3 := Lib.hid hO.swap
  clear c0 c1 c2 c3 c4 c5 c6 c7 c8 c9 f HC hO
  obtain ⟨c0, c1, c2, c3, c4, c5, c6, c7, c8, c9, f⟩ := rCells H3.out
  have HM2 := Lib.hid (HM _ _ H3.out)
  go_wp2_with fail
  refine HM2.out.mono ?_
  rintro e w8 ⟨rfl, hO⟩
  have H8 := Lib.hid hO
  clear c0 c1 c2 c3 c4 c5 c6 c7 c8 c9 f hO HM2
  obtain ⟨c0, c1, c2, c3, c4, c5, c6, c7, c8, c9, f⟩ := rCells H8.out
  go_wp2_with fail
  go_ret
  exact ⟨rfl, H8.out⟩
set_option maxHeartbeats 4000000 in
theorem rStep_3 {k : Nat} (b i : Nat) (S g d x l wv v : Int) (hb : b ≤ 1000) (hi : i ≤ 8) (hn : ws.length ≤ 1000000) (hg : lg.length < 1000000) (hl : b + 4 + i < ws.length) (h : Own w0 F0 (blk k (rO b S g d x 3 l i wv v) :: memA T m ws lg :: L) w) :
    Calls Tryz.prog 86 #[.pointer (some ⟨k, 0, none⟩), .pointer (some ⟨m, 0, none⟩)] w fun e w' => e = .returned (.bool false) ∧ Own w0 F0 (blk k (rO b S g d x 4 l i wv v) :: memA T m (ws.set (b + 1) (wrap64 (ws.getD (b + 1) 0 + 1))) (lg ++ [⟨2, (b : Int) + 1, 1, wrap64 (ws.getD (b + 1) 0 + 1), false⟩]) :: L) w' := by
  have H1 := Lib.hid h
  obtain ⟨c0, c1, c2, c3, c4, c5, c6, c7, c8, c9, f⟩ := rCells h
  clear h
  have B0 : (0 : Int) ≤ b := by omega
  have B1 : (b : Int) ≤ 1000 := by omega
  have I0 : (0 : Int) ≤ i := by omega
  have I1 : (i : Int) ≤ 8 := by omega
  have HL := fun L2 w h => Lib.hid (rAdd_y (w0 := w0) (F0 := F0) (L := L2) (T := T) (m := m) (ws := ws) (lg := lg) (w := w) (b + 1) ((b : Int) + 1) 1 (ws.getD (b + 1) 0) (by omega) rfl (by omega) hn hg h)
  clear hg
  generalize wrap64 (ws.getD (b + 1) 0 + 1) = n1 at *
  go_enter Tryz.func86, Tryz.ntmps86
  go_wp2_with fail
  go_quiet (fail)
  clear c0 c1 c2 c3 c4 c5 c6 c7 c8 c9 f
  have Hw1 := Lib.hid (H1.out.drewN nq)
  generalize World.drewN w nq = w1 at Hw1 ⊢
  obtain ⟨c0, c1, c2, c3, c4, c5, c6, c7, c8, c9, f⟩ := rCells Hw1.out
  have HC := HL _ _ Hw1.out.swap
  go_wp2_with fail
  refine HC.out.mono ?_
  rintro e w3 ⟨rfl, hO⟩
  have H3 := Lib.hid hO.swap
  clear c0 c1 c2 c3 c4 c5 c6 c7 c8 c9 f HC hO
  obtain ⟨c0, c1, c2, c3, c4, c5, c6, c7, c8, c9, f⟩ := rCells H3.out
  go_wp2_with fail
  go_ret
  exact ⟨rfl, rSet5 H3.out 4⟩
set_option maxHeartbeats 4000000 in
theorem rStep_6 {k : Nat} (b i : Nat) (S g d x l wv v : Int) (hb : b ≤ 1000) (hi : i ≤ 8) (hn : ws.length ≤ 1000000) (hg : lg.length < 1000000) (hl : b + 4 + i < ws.length) (h : Own w0 F0 (blk k (rO b S g d x 6 l i wv v) :: memA T m ws lg :: L) w) :
    Calls Tryz.prog 86 #[.pointer (some ⟨k, 0, none⟩), .pointer (some ⟨m, 0, none⟩)] w fun e w' => e = .returned (.bool true) ∧ Own w0 F0 (blk k (rO b S g d x 9 l i wv v) :: memA T m (ws.set (b + 2) (wrap64 (ws.getD (b + 2) 0 + 1))) (lg ++ [⟨2, (b : Int) + 2, 1, wrap64 (ws.getD (b + 2) 0 + 1), false⟩]) :: L) w' := by
  have H1 := Lib.hid h
  obtain ⟨c0, c1, c2, c3, c4, c5, c6, c7, c8, c9, f⟩ := rCells h
  clear h
  have B0 : (0 : Int) ≤ b := by omega
  have B1 : (b : Int) ≤ 1000 := by omega
  have I0 : (0 : Int) ≤ i := by omega
  have I1 : (i : Int) ≤ 8 := by omega
  have HL := fun L2 w h => Lib.hid (rAdd_y (w0 := w0) (F0 := F0) (L := L2) (T := T) (m := m) (ws := ws) (lg := lg) (w := w) (b + 2) ((b : Int) + 2) 1 (ws.getD (b + 2) 0) (by omega) rfl (by omega) hn hg h)
  clear hg
  generalize wrap64 (ws.getD (b + 2) 0 + 1) = n1 at *
  go_enter Tryz.func86, Tryz.ntmps86
  go_wp2_with fail
  go_quiet (fail)
  clear c0 c1 c2 c3 c4 c5 c6 c7 c8 c9 f
  have Hw1 := Lib.hid (H1.out.drewN nq)
  generalize World.drewN w nq = w1 at Hw1 ⊢
  obtain ⟨c0, c1, c2, c3, c4, c5, c6, c7, c8, c9, f⟩ := rCells Hw1.out
  have HC := HL _ _ Hw1.out.swap
  go_wp2_with fail
  refine HC.out.mono ?_
  rintro e w3 ⟨rfl, hO⟩
  have H3 := Lib.hid hO.swap
  clear c0 c1 c2 c3 c4 c5 c6 c7 c8 c9 f HC hO
  obtain ⟨c0, c1, c2, c3, c4, c5, c6, c7, c8, c9, f⟩ := rCells H3.out
  go_wp2_with fail
  go_ret
  exact ⟨rfl, rSet5 H3.out 9⟩
set_option maxHeartbeats 4000000 in
theorem rStep_7my {k : Nat} (b i : Nat) (S g d x l wv v : Int) (hb : b ≤ 1000) (hi : i ≤ 8) (hn : ws.length ≤ 1000000) (hg : lg.length < 1000000) (hl : b + 4 + i < ws.length) (ll : l < S) (h : Own w0 F0 (blk k (rO b S g d x 7 l i wv v) :: memA T m ws lg :: L) w) :
    Calls Tryz.prog 86 #[.pointer (some ⟨k, 0, none⟩), .pointer (some ⟨m, 0, none⟩)] w fun e w' => e = .returned (.bool false) ∧ Own w0 F0 (blk k (rO b S g d x 8 l i wv v) :: memA T m (ws.set (b + 2) (wrap64 (ws.getD (b + 2) 0 + 1))) (lg ++ [⟨2, (b : Int) + 2, 1, wrap64 (ws.getD (b + 2) 0 + 1), false⟩]) :: L) w' := by
  have H1 := Lib.hid h
  obtain ⟨c0, c1, c2, c3, c4, c5, c6, c7, c8, c9, f⟩ := rCells h
  clear h
  have B0 : (0 : Int) ≤ b := by omega
  have B1 : (b : Int) ≤ 1000 := by omega
  have I0 : (0 : Int) ≤ i := by omega
  have I1 : (i : Int) ≤ 8 := by omega
  have HM := fun L2 w h => rMiss_yes (k := k) (b := b) (g := g) (d := d) (a := 7) (i := i) (wv := wv) (v := v) (w0 := w0) (F0 := F0) (L := L2) (w := w) (S := S) (x := x) (l := l) ll h
  clear ll
  have HL := fun L2 w h => Lib.hid (rAdd_y (w0 := w0) (F0 := F0) (L := L2) (T := T) (m := m) (ws := ws) (lg := lg) (w := w) (b + 2) ((b : Int) + 2) 1 (ws.getD (b + 2) 0) (by omega) rfl (by omega) hn hg h)
  clear hg
  generalize wrap64 (ws.getD (b + 2) 0 + 1) = n1 at *
  go_enter Tryz.func86, Tryz.ntmps86
  go_wp2_with fail
  go_quiet (fail)
  clear c0 c1 c2 c3 c4 c5 c6 c7 c8 c9 f
  have Hw1 := Lib.hid (H1.out.drewN nq)
  generalize World.drewN w nq = w1 at Hw1 ⊢
  obtain ⟨c0, c1, c2, c3, c4, c5, c6, c7, c8, c9, f⟩ := rCells Hw1.out
  have HC := HL _ _ Hw1.out.swap
  go_wp2_with fail
  refine HC.out.mono ?_
  rintro e w3 ⟨rfl, hO⟩
  have H3 := Lib.hid hO.swap
  clear c0 c1 c2 c3 c4 c5 c6 c7 c8 c9 f HC hO
  obtain ⟨c0, c1, c2, c3, c4, c5, c6, c7, c8, c9, f⟩ := rCells H3.out
  have HM2 := Lib.hid (HM _ _ H3.out)
  go_wp2_with fail
  refine HM2.out.mono ?_
  rintro e w8 ⟨rfl, hO⟩
  have H8 := Lib.hid hO
  clear c0 c1 c2 c3 c4 c5 c6 c7 c8 c9 f hO HM2
  obtain ⟨c0, c1, c2, c3, c4, c5, c6, c7, c8, c9, f⟩ := rCells H8.out
  go_wp2_with fail
  go_ret
  exact ⟨rfl, H8.out⟩
set_option maxHeartbeats 4000000 in
theorem rStep_7mn {k : Nat} (b i : Nat) (S g d x l wv v : Int) (hb : b ≤ 1000) (hi : i ≤ 8) (hn : ws.length ≤ 1000000) (hg : lg.length < 1000000) (hl : b + 4 + i < ws.length) (ll : ¬ l < S) (x0 : -9223372036854775808 ≤ x) (x1 : x ≤ 9223372036854775807) (h : Own w0 F0 (blk k (rO b S g d x 7 l i wv v) :: memA T m ws lg :: L) w) :
    Calls Tryz.prog 86 #[.pointer (some ⟨k, 0, none⟩), .pointer (some ⟨m, 0, none⟩)] w fun e w' => e = .returned (.bool false) ∧ Own w0 F0 (blk k (rO b S g d (nx (dr x)) 0 l i wv v) :: memA T m (ws.set (b + 2) (wrap64 (ws.getD (b + 2) 0 + 1))) (lg ++ [⟨2, (b : Int) + 2, 1, wrap64 (ws.getD (b + 2) 0 + 1), false⟩]) :: L) w' := by
  have H1 := Lib.hid h
  obtain ⟨c0, c1, c2, c3, c4, c5, c6, c7, c8, c9, f⟩ := rCells h
  clear h
  have B0 : (0 : Int) ≤ b := by omega
  have B1 : (b : Int) ≤ 1000 := by omega
  have I0 : (0 : Int) ≤ i := by omega
  have I1 : (i : Int) ≤ 8 := by omega
  have HM := fun L2 w h => rMiss_no (k := k) (b := b) (g := g) (d := d) (a := 7) (i := i) (wv := wv) (v := v) (w0 := w0) (F0 := F0) (L := L2) (w := w) (S := S) (x := x) (l := l) ll x0 x1 h
  clear ll
  have HL := fun L2 w h => Lib.hid (rAdd_y (w0 := w0) (F0 := F0) (L := L2) (T := T) (m := m) (ws := ws) (lg := lg) (w := w) (b + 2) ((b : Int) + 2) 1 (ws.getD (b + 2) 0) (by omega) rfl (by omega) hn hg h)
  clear hg
  generalize wrap64 (ws.getD (b + 2) 0 + 1) = n1 at *
  go_enter Tryz.func86, Tryz.ntmps86
  go_wp2_with fail
  go_quiet (fail)
  clear c0 c1 c2 c3 c4 c5 c6 c7 c8 c9 f
  have Hw1 := Lib.hid (H1.out.drewN nq)
  generalize World.drewN w nq = w1 at Hw1 ⊢
  obtain ⟨c0, c1, c2, c3, c4, c5, c6, c7, c8, c9, f⟩ := rCells Hw1.out
  have HC := HL _ _ Hw1.out.swap
  go_wp2_with fail
  refine HC.out.mono ?_
  rintro e w3 ⟨rfl, hO⟩
  have H3 := Lib.hid hO.swap
  clear c0 c1 c2 c3 c4 c5 c6 c7 c8 c9 f HC hO
  obtain ⟨c0, c1, c2, c3, c4, c5, c6, c7, c8, c9, f⟩ := rCells H3.out
  have HM2 := Lib.hid (HM _ _ H3.out)
  go_wp2_with fail
  refine HM2.out.mono ?_
  rintro e w8 ⟨rfl, hO⟩
  have H8 := Lib.hid hO
  clear c0 c1 c2 c3 c4 c5 c6 c7 c8 c9 f hO HM2
  obtain ⟨c0, c1, c2, c3, c4, c5, c6, c7, c8, c9, f⟩ := rCells H8.out
  go_wp2_with fail
  go_ret
  exact ⟨rfl, H8.out⟩
set_option maxHeartbeats 4000000 in
theorem rStep_4y {k : Nat} (b i : Nat) (S g d x l wv v : Int) (hb : b ≤ 1000) (hi : i ≤ 8) (hn : ws.length ≤ 1000000) (hg : lg.length < 1000000) (hl : b + 4 + i < ws.length) (hwI : -9223372036854775808 ≤ wv ∧ wv ≤ 9223372036854775807) (he : ws.getD (b + 4 + i) 0 = wv) (h : Own w0 F0 (blk k (rO b S g d x 4 l i wv v) :: memA T m ws lg :: L) w) :
    Calls Tryz.prog 86 #[.pointer (some ⟨k, 0, none⟩), .pointer (some ⟨m, 0, none⟩)] w fun e w' => e = .returned (.bool false) ∧ Own w0 F0 (blk k (rO b S g d x 5 l i wv v) :: memA T m (ws.set (b + 4 + i) (nxt wv 0)) (lg ++ [⟨3, (b : Int) + 4 + i, wv, nxt wv 0, true⟩]) :: L) w' := by
  have H1 := Lib.hid h
  obtain ⟨c0, c1, c2, c3, c4, c5, c6, c7, c8, c9, f⟩ := rCells h
  clear h
  have B0 : (0 : Int) ≤ b := by omega
  have B1 : (b : Int) ≤ 1000 := by omega
  have I0 : (0 : Int) ≤ i := by omega
  have I1 : (i : Int) ≤ 8 := by omega
  have HN := fun w => Lib.hid (rNext_yes wv 0 (by omega) (by omega) hwI.1 hwI.2 w)
  have HNx : sg (pmk ((pver wv + 1) % 4294967296) 0) = nxt wv 0 := rfl
  rw [HNx] at HN
  clear HNx
  generalize nxt wv 0 = nz at *
  have HL := fun L2 w h => Lib.hid (rCas_y (w0 := w0) (F0 := F0) (L := L2) (T := T) (m := m) (ws := ws) (lg := lg) (w := w) (b + 4 + i) ((b : Int) + 4 + i) wv nz (by omega) hl hn hg he h)
  clear hg hl
  clear he
  go_enter Tryz.func86, Tryz.ntmps86
  go_wp2_with fail
  go_quiet (fail)
  clear c0 c1 c2 c3 c4 c5 c6 c7 c8 c9 f
  have Hw1 := Lib.hid (H1.out.drewN nq)
  generalize World.drewN w nq = w1 at Hw1 ⊢
  obtain ⟨c0, c1, c2, c3, c4, c5, c6, c7, c8, c9, f⟩ := rCells Hw1.out
  go_wp2_with fail
  refine (HN _).out.mono ?_
  rintro e w2 ⟨rfl, rfl⟩
  have H2 := Lib.hid (rSet5 Hw1.out 7)
  have HC := HL _ _ H2.out.swap
  go_wp2_with fail
  refine HC.out.mono ?_
  rintro e w3 ⟨rfl, hO⟩
  have H3 := Lib.hid hO.swap
  clear c0 c1 c2 c3 c4 c5 c6 c7 c8 c9 f HC hO
  obtain ⟨c0, c1, c2, c3, c4, c5, c6, c7, c8, c9, f⟩ := rCells H3.out
  go_wp2_with fail
  go_ret
  exact ⟨rfl, rSet5 H3.out 5⟩
set_option maxHeartbeats 4000000 in
theorem rStep_4n {k : Nat} (b i : Nat) (S g d x l wv v : Int) (hb : b ≤ 1000) (hi : i ≤ 8) (hn : ws.length ≤ 1000000) (hg : lg.length < 1000000) (hl : b + 4 + i < ws.length) (hwI : -9223372036854775808 ≤ wv ∧ wv ≤ 9223372036854775807) (he : ws.getD (b + 4 + i) 0 ≠ wv) (h : Own w0 F0 (blk k (rO b S g d x 4 l i wv v) :: memA T m ws lg :: L) w) :
    Calls Tryz.prog 86 #[.pointer (some ⟨k, 0, none⟩), .pointer (some ⟨m, 0, none⟩)] w fun e w' => e = .returned (.bool false) ∧ Own w0 F0 (blk k (rO b S g d x 7 l i wv v) :: memA T m ws (lg ++ [⟨3, (b : Int) + 4 + i, wv, nxt wv 0, false⟩]) :: L) w' := by
  have H1 := Lib.hid h
  obtain ⟨c0, c1, c2, c3, c4, c5, c6, c7, c8, c9, f⟩ := rCells h
  clear h
  have B0 : (0 : Int) ≤ b := by omega
  have B1 : (b : Int) ≤ 1000 := by omega
  have I0 : (0 : Int) ≤ i := by omega
  have I1 : (i : Int) ≤ 8 := by omega
  have HN := fun w => Lib.hid (rNext_yes wv 0 (by omega) (by omega) hwI.1 hwI.2 w)
  have HNx : sg (pmk ((pver wv + 1) % 4294967296) 0) = nxt wv 0 := rfl
  rw [HNx] at HN
  clear HNx
  generalize nxt wv 0 = nz at *
  have HL := fun L2 w h => Lib.hid (rCas_n (w0 := w0) (F0 := F0) (L := L2) (T := T) (m := m) (ws := ws) (lg := lg) (w := w) (b + 4 + i) ((b : Int) + 4 + i) wv nz (by omega) hl hg he h)
  clear hg hl
  clear he
  go_enter Tryz.func86, Tryz.ntmps86
  go_wp2_with fail
  go_quiet (fail)
  clear c0 c1 c2 c3 c4 c5 c6 c7 c8 c9 f
  have Hw1 := Lib.hid (H1.out.drewN nq)
  generalize World.drewN w nq = w1 at Hw1 ⊢
  obtain ⟨c0, c1, c2, c3, c4, c5, c6, c7, c8, c9, f⟩ := rCells Hw1.out
  go_wp2_with fail
  refine (HN _).out.mono ?_
  rintro e w2 ⟨rfl, rfl⟩
  have H2 := Lib.hid (rSet5 Hw1.out 7)
  have HC := HL _ _ H2.out.swap
  go_wp2_with fail
  refine HC.out.mono ?_
  rintro e w3 ⟨rfl, hO⟩
  have H3 := Lib.hid hO.swap
  clear c0 c1 c2 c3 c4 c5 c6 c7 c8 c9 f HC hO
  obtain ⟨c0, c1, c2, c3, c4, c5, c6, c7, c8, c9, f⟩ := rCells H3.out
  go_wp2_with fail
  go_ret
  exact ⟨rfl, H3.out⟩
set_option maxHeartbeats 4000000 in
theorem rStep_5 {k : Nat} (b i : Nat) (S g d x l wv v : Int) (hb : b ≤ 1000) (hi : i ≤ 8) (hn : ws.length ≤ 1000000) (hg : lg.length < 1000000) (hl : b + 4 + i < ws.length) (h : Own w0 F0 (blk k (rO b S g d x 5 l i wv v) :: memA T m ws lg :: L) w) :
    Calls Tryz.prog 86 #[.pointer (some ⟨k, 0, none⟩), .pointer (some ⟨m, 0, none⟩)] w fun e w' => e = .returned (.bool false) ∧ Own w0 F0 (blk k (rO b S g d x 6 l i wv v) :: memA T m (ws.set b (wrap64 (ws.getD b 0 + v))) (lg ++ [⟨2, (b : Int), v, wrap64 (ws.getD b 0 + v), false⟩]) :: L) w' := by
  have H1 := Lib.hid h
  obtain ⟨c0, c1, c2, c3, c4, c5, c6, c7, c8, c9, f⟩ := rCells h
  clear h
  have B0 : (0 : Int) ≤ b := by omega
  have B1 : (b : Int) ≤ 1000 := by omega
  have I0 : (0 : Int) ≤ i := by omega
  have I1 : (i : Int) ≤ 8 := by omega
  have HL := fun L2 w h => Lib.hid (rAdd_y (w0 := w0) (F0 := F0) (L := L2) (T := T) (m := m) (ws := ws) (lg := lg) (w := w) b (b : Int) v (ws.getD b 0) (by omega) rfl (by omega) hn hg h)
  clear hg
  generalize wrap64 (ws.getD b 0 + v) = n1 at *
  go_enter Tryz.func86, Tryz.ntmps86
  go_wp2_with fail
  go_quiet (fail)
  clear c0 c1 c2 c3 c4 c5 c6 c7 c8 c9 f
  have Hw1 := Lib.hid (H1.out.drewN nq)
  generalize World.drewN w nq = w1 at Hw1 ⊢
  obtain ⟨c0, c1, c2, c3, c4, c5, c6, c7, c8, c9, f⟩ := rCells Hw1.out
  go_wp2_with fail
  refine wp_region_still_tail 9 (by kernel_rfl) (by kernel_rfl) ?_
  simp only [List.take_succ_cons, List.take_zero, List.drop_succ_cons, List.drop_zero]
  change wpStill _ _ (World.drew w1) _ _ _
  iterate 9 still_step
  refine wpStill_nil ?_
  change wpList _ _ _ _ _ (World.drew w1)
  have H2 := Lib.hid (Hw1.out.drew)
  clear c0 c1 c2 c3 c4 c5 c6 c7 c8 c9 f
  generalize World.drew w1 = w2 at H2 ⊢
  obtain ⟨c0, c1, c2, c3, c4, c5, c6, c7, c8, c9, f⟩ := rCells H2.out
  have HC := HL _ _ H2.out.swap
  go_wp2_with fail
  refine HC.out.mono ?_
  rintro e w3 ⟨rfl, hO⟩
  have H3 := Lib.hid hO.swap
  clear c0 c1 c2 c3 c4 c5 c6 c7 c8 c9 f HC hO
  obtain ⟨c0, c1, c2, c3, c4, c5, c6, c7, c8, c9, f⟩ := rCells H3.out
  go_wp2_with fail
  go_ret
  exact ⟨rfl, rSet5 H3.out 6⟩
set_option maxHeartbeats 4000000 in
theorem rStep_8y {k : Nat} (b i : Nat) (S g d x l wv v : Int) (hb : b ≤ 1000) (hi : i ≤ 8) (hn : ws.length ≤ 1000000) (hg : lg.length < 1000000) (hl : b + 3 < ws.length) (l0 : 0 ≤ l) (l1 : l ≤ 8) (x0 : -9223372036854775808 ≤ x) (x1 : x ≤ 9223372036854775807) (he : ws.getD (b + 3) 0 = l) (h : Own w0 F0 (blk k (rO b S g d x 8 l i wv v) :: memA T m ws lg :: L) w) :
    Calls Tryz.prog 86 #[.pointer (some ⟨k, 0, none⟩), .pointer (some ⟨m, 0, none⟩)] w fun e w' => e = .returned (.bool false) ∧ Own w0 F0 (blk k (rO b S g d (nx (dr x)) 0 l i wv v) :: memA T m (ws.set (b + 3) (2 * l)) (lg ++ [⟨3, (b : Int) + 3, l, 2 * l, true⟩]) :: L) w' := by
  have H1 := Lib.hid h
  obtain ⟨c0, c1, c2, c3, c4, c5, c6, c7, c8, c9, f⟩ := rCells h
  clear h
  have B0 : (0 : Int) ≤ b := by omega
  have B1 : (b : Int) ≤ 1000 := by omega
  have I0 : (0 : Int) ≤ i := by omega
  have I1 : (i : Int) ≤ 8 := by omega
  have HL := fun L2 w h => Lib.hid (rCas_y (w0 := w0) (F0 := F0) (L := L2) (T := T) (m := m) (ws := ws) (lg := lg) (w := w) (b + 3) ((b : Int) + 3) l (2 * l) (by omega) hl hn hg he h)
  clear hg hl
  clear he
  go_enter Tryz.func86, Tryz.ntmps86
  go_wp2_with fail
  go_quiet (fail)
  clear c0 c1 c2 c3 c4 c5 c6 c7 c8 c9 f
  have Hw1 := Lib.hid (H1.out.drewN nq)
  generalize World.drewN w nq = w1 at Hw1 ⊢
  obtain ⟨c0, c1, c2, c3, c4, c5, c6, c7, c8, c9, f⟩ := rCells Hw1.out
  go_wp2_with fail
  refine wp_region_still_tail 15 (by kernel_rfl) (by kernel_rfl) ?_
  simp only [List.take_succ_cons, List.take_zero, List.drop_succ_cons, List.drop_zero]
  change wpStill _ _ (World.drew w1) _ _ _
  iterate 15 still_step
  refine wpStill_nil ?_
  change wpList _ _ _ _ _ (World.drew w1)
  have H2 := Lib.hid (Hw1.out.drew)
  clear c0 c1 c2 c3 c4 c5 c6 c7 c8 c9 f
  generalize World.drew w1 = w2 at H2 ⊢
  obtain ⟨c0, c1, c2, c3, c4, c5, c6, c7, c8, c9, f⟩ := rCells H2.out
  have HC := HL _ _ H2.out.swap
  go_wp2_with fail
  refine HC.out.mono ?_
  rintro e w3 ⟨rfl, hO⟩
  have H3 := Lib.hid hO.swap
  clear c0 c1 c2 c3 c4 c5 c6 c7 c8 c9 f HC hO
  obtain ⟨c0, c1, c2, c3, c4, c5, c6, c7, c8, c9, f⟩ := rCells H3.out
  go_wp2_with fail
  refine (rNext_any x x0 x1 _).mono ?_
  rintro e w4 ⟨rfl, rfl⟩
  go_wp2_with fail
  go_ret
  exact ⟨rfl, rSet5 (rSet4 H3.out (nx (dr x))) 0⟩
set_option maxHeartbeats 4000000 in
theorem rStep_8n {k : Nat} (b i : Nat) (S g d x l wv v : Int) (hb : b ≤ 1000) (hi : i ≤ 8) (hn : ws.length ≤ 1000000) (hg : lg.length < 1000000) (hl : b + 3 < ws.length) (l0 : 0 ≤ l) (l1 : l ≤ 8) (x0 : -9223372036854775808 ≤ x) (x1 : x ≤ 9223372036854775807) (he : ws.getD (b + 3) 0 ≠ l) (h : Own w0 F0 (blk k (rO b S g d x 8 l i wv v) :: memA T m ws lg :: L) w) :
    Calls Tryz.prog 86 #[.pointer (some ⟨k, 0, none⟩), .pointer (some ⟨m, 0, none⟩)] w fun e w' => e = .returned (.bool false) ∧ Own w0 F0 (blk k (rO b S g d (nx (dr x)) 0 l i wv v) :: memA T m ws (lg ++ [⟨3, (b : Int) + 3, l, 2 * l, false⟩]) :: L) w' := by
  have H1 := Lib.hid h
  obtain ⟨c0, c1, c2, c3, c4, c5, c6, c7, c8, c9, f⟩ := rCells h
  clear h
  have B0 : (0 : Int) ≤ b := by omega
  have B1 : (b : Int) ≤ 1000 := by omega
  have I0 : (0 : Int) ≤ i := by omega
  have I1 : (i : Int) ≤ 8 := by omega
  have HL := fun L2 w h => Lib.hid (rCas_n (w0 := w0) (F0 := F0) (L := L2) (T := T) (m := m) (ws := ws) (lg := lg) (w := w) (b + 3) ((b : Int) + 3) l (2 * l) (by omega) hl hg he h)
  clear hg hl
  clear he
  go_enter Tryz.func86, Tryz.ntmps86
  go_wp2_with fail
  go_quiet (fail)
  clear c0 c1 c2 c3 c4 c5 c6 c7 c8 c9 f
  have Hw1 := Lib.hid (H1.out.drewN nq)
  generalize World.drewN w nq = w1 at Hw1 ⊢
  obtain ⟨c0, c1, c2, c3, c4, c5, c6, c7, c8, c9, f⟩ := rCells Hw1.out
  go_wp2_with fail
  refine wp_region_still_tail 15 (by kernel_rfl) (by kernel_rfl) ?_
  simp only [List.take_succ_cons, List.take_zero, List.drop_succ_cons, List.drop_zero]
  change wpStill _ _ (World.drew w1) _ _ _
  iterate 15 still_step
  refine wpStill_nil ?_
  change wpList _ _ _ _ _ (World.drew w1)
  have H2 := Lib.hid (Hw1.out.drew)
  clear c0 c1 c2 c3 c4 c5 c6 c7 c8 c9 f
  generalize World.drew w1 = w2 at H2 ⊢
  obtain ⟨c0, c1, c2, c3, c4, c5, c6, c7, c8, c9, f⟩ := rCells H2.out
  have HC := HL _ _ H2.out.swap
  go_wp2_with fail
  refine HC.out.mono ?_
  rintro e w3 ⟨rfl, hO⟩
  have H3 := Lib.hid hO.swap
  clear c0 c1 c2 c3 c4 c5 c6 c7 c8 c9 f HC hO
  obtain ⟨c0, c1, c2, c3, c4, c5, c6, c7, c8, c9, f⟩ := rCells H3.out
  go_wp2_with fail
  refine (rNext_any x x0 x1 _).mono ?_
  rintro e w4 ⟨rfl, rfl⟩
  go_wp2_with fail
  go_ret
  exact ⟨rfl, rSet5 (rSet4 H3.out (nx (dr x))) 0⟩
set_option maxHeartbeats 4000000 in
theorem rStep_9 {k : Nat} (b i : Nat) (S g d x l wv v : Int) (hb : b ≤ 1000) (hi : i ≤ 8) (hn : ws.length ≤ 1000000) (hg : lg.length < 1000000) (h : Own w0 F0 (blk k (rO b S g d x 9 l i wv v) :: memA T m ws lg :: L) w) :
    Calls Tryz.prog 86 #[.pointer (some ⟨k, 0, none⟩), .pointer (some ⟨m, 0, none⟩)] w fun e w' => e = .returned (.bool true) ∧ Own w0 F0 (blk k (rO b S g d x 9 l i wv v) :: memA T m ws lg :: L) w' := by
  have H1 := Lib.hid h
  obtain ⟨c0, c1, c2, c3, c4, c5, c6, c7, c8, c9, f⟩ := rCells h
  clear h
  have B0 : (0 : Int) ≤ b := by omega
  have B1 : (b : Int) ≤ 1000 := by omega
  have I0 : (0 : Int) ≤ i := by omega
  have I1 : (i : Int) ≤ 8 := by omega
  go_enter Tryz.func86, Tryz.ntmps86
  go_wp2_with fail
  go_quiet (fail)
  clear c0 c1 c2 c3 c4 c5 c6 c7 c8 c9 f
  have Hw1 := Lib.hid (H1.out.drewN nq)
  generalize World.drewN w nq = w1 at Hw1 ⊢
  obtain ⟨c0, c1, c2, c3, c4, c5, c6, c7, c8, c9, f⟩ := rCells Hw1.out
  go_wp2_with fail
  go_ret
  exact ⟨rfl, Hw1.out⟩
end Go.Proofs.YtlpdafldabfiaaaGreat
end
