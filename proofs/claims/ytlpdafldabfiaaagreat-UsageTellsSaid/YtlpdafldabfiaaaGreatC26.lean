/- Texts of elder layers, one behind the other: PoolRef. -/
import Derived.Test.YtlpdafldabfiaaaGreatC25
import Derived.Deep.RegionHeld3
import Derived.Deep.QuietTactic
import Derived.BigQuiet
section
namespace Go.Proofs.YtlpdafldabfiaaaGreat
open Go.ChangeShapes Go.WideShapes Go.ChangeAt Go.RowKit Go.Shelf
set_option linter.unusedVariables false
set_option linter.unusedSimpArgs false
set_option maxRecDepth 100000
variable {w0 w w' : World} {F0 : Nat → Prop} {L : List Asn} {T : TypeId} {m : Nat} {ws : List Int} {lg : List Acc}
def rmO (c : Cf) (pp : Option Addr) (np cp : Nat) (pl : Option Addr) (nl cl : Nat) (nd n sp at_ l a e er an : Int) : Obj := .cells #[.int .i64 c.th, .int .i64 c.st, .int .i64 c.ga, .int .i64 c.le, .int .i64 c.re, .int .i64 c.ti, .slice pp np cp, .slice pl nl cl, .int .i64 nd, .int .i64 n, .int .i64 sp, .int .i64 at_, .int .i64 l, .int .i64 a, .int .i64 e, .int .i64 er, .int .i64 0, .bool false, .int .i64 an] 150 (0, 0)
theorem rmCells {k : Nat} {c : Cf} {pp pl : Option Addr} {np cp nl cl : Nat} {nd n sp at_ l a e er an : Int} (h : Own w0 F0 (blk k (rmO c pp np cp pl nl cl nd n sp at_ l a e er an) :: L) w) :
    w.cell? ⟨k, 0, none⟩ = some (.int .i64 c.th) ∧ w.cell? ⟨k, 1, none⟩ = some (.int .i64 c.st) ∧ w.cell? ⟨k, 2, none⟩ = some (.int .i64 c.ga) ∧ w.cell? ⟨k, 3, none⟩ = some (.int .i64 c.le) ∧ w.cell? ⟨k, 4, none⟩ = some (.int .i64 c.re) ∧ w.cell? ⟨k, 5, none⟩ = some (.int .i64 c.ti) ∧ w.cell? ⟨k, 6, none⟩ = some (.slice pp np cp) ∧ w.cell? ⟨k, 7, none⟩ = some (.slice pl nl cl) ∧ w.cell? ⟨k, 8, none⟩ = some (.int .i64 nd) ∧ w.cell? ⟨k, 9, none⟩ = some (.int .i64 n) ∧ w.cell? ⟨k, 10, none⟩ = some (.int .i64 sp) ∧ w.cell? ⟨k, 11, none⟩ = some (.int .i64 at_) ∧ w.cell? ⟨k, 12, none⟩ = some (.int .i64 l) ∧ w.cell? ⟨k, 13, none⟩ = some (.int .i64 a) ∧ w.cell? ⟨k, 14, none⟩ = some (.int .i64 e) ∧ w.cell? ⟨k, 15, none⟩ = some (.int .i64 er) ∧ w.cell? ⟨k, 16, none⟩ = some (.int .i64 0) ∧ w.cell? ⟨k, 17, none⟩ = some (.bool false) ∧ w.cell? ⟨k, 18, none⟩ = some (.int .i64 an) ∧ ∀ j, w.frozen? ⟨k, j, none⟩ = false :=
  ⟨h.cell (i := 0) rfl, h.cell (i := 1) rfl, h.cell (i := 2) rfl, h.cell (i := 3) rfl, h.cell (i := 4) rfl, h.cell (i := 5) rfl, h.cell (i := 6) rfl, h.cell (i := 7) rfl, h.cell (i := 8) rfl, h.cell (i := 9) rfl, h.cell (i := 10) rfl, h.cell (i := 11) rfl, h.cell (i := 12) rfl, h.cell (i := 13) rfl, h.cell (i := 14) rfl, h.cell (i := 15) rfl, h.cell (i := 16) rfl, h.cell (i := 17) rfl, h.cell (i := 18) rfl, fun j => h.unfrozen⟩
theorem rmn_alt (a b : Int) : (if b < a then b else a) = mn a b := by unfold mn; split <;> split <;> omega
structure RmOk (c : Cf) (nd sp : Int) (av le : Nat) (n : Int) : Prop where
  hs : Sm c
  v0 : 0 ≤ nd
  v1 : nd ≤ 12
  s0 : 0 ≤ sp
  s1 : sp ≤ 8
  p0 : lim c nd + 1 = (av : Int)
  p1 : lim c nd + 2 + sp = (le : Int)
section
variable {k : Nat} {c : Cf} {pp pl : Option Addr} {np cp nl cl : Nat} {nd n sp l a e er an : Int} {av le : Nat}
theorem rLoad_y (i : Nat) (y : Int) (hy : ws.getD i 0 = y) (hi : i < ws.length) (hl : lg.length < 1000000) (h : Own w0 F0 (memA T m ws lg :: L) w) :
    Calls Tryz.prog 105 #[.pointer (some ⟨m, 0, none⟩), .int .i64 i] w fun en w' =>
      en = .returned (.int .i64 y) ∧ Own w0 F0 (memA T m ws (lg ++ [⟨1, i, y, 0, false⟩]) :: L) w' := by
  subst hy; exact rLoad_any i hi hl h
set_option maxHeartbeats 1000000 in
theorem rst0_yes (hr : RmOk c nd sp av le n) (hn : ws.length ≤ 1000000) (hl : lg.length < 1000000) (y : Int) (hi : le < ws.length) (hy : ws.getD le 0 = y) (hc : n ≤ y)
    (h : Own w0 F0 (blk k (rmO c pp np cp pl nl cl nd n sp 0 l a e er an) :: memA T m ws lg :: L) w) :
    Calls Tryz.prog 77 #[.pointer (some ⟨k, 0, none⟩), .pointer (some ⟨m, 0, none⟩)] w fun en w' => en = .returned (.bool false) ∧
      Own w0 F0 (blk k (rmO c pp np cp pl nl cl nd n sp 1 y a e er an) :: memA T m ws (lg ++ [⟨1, le, y, 0, false⟩]) :: L) w' := by
  have H1 := fun w => Lib.hid (rLease_q (pp := pp) (np := np) (cp := cp) (pl := pl) (nl := nl) (cl := cl) c hr.hs nd hr.v0 hr.v1 sp hr.s0 hr.s1 w)
  have H2 := fun w => Lib.hid (rAvail_q (pp := pp) (np := np) (cp := cp) (pl := pl) (nl := nl) (cl := cl) c hr.hs nd hr.v0 hr.v1 w)
  rw [hr.p1] at H1
  rw [hr.p0] at H2
  have HLd := fun L w h => Lib.hid (rLoad_y (w0 := w0) (F0 := F0) (L := L) (T := T) (m := m) (ws := ws) (lg := lg) (w := w) le y hy hi hl h)
  clear hl hn hi hy
  obtain ⟨c0, c1, c2, c3, c4, c5, c6, c7, c8, c9, c10, c11, c12, c13, c14, c15, c16, c17, c18, cf⟩ := rmCells h
  have hO := h.drew
  clear h hr
  go_enter Tryz.func77, Tryz.ntmps77
  go_wp2_with fail
  go_region_held3 (fun w' => w'.cell? ⟨k, 0, none⟩ = some (.int .i64 c.th) ∧ w'.cell? ⟨k, 1, none⟩ = some (.int .i64 c.st) ∧ w'.cell? ⟨k, 2, none⟩ = some (.int .i64 c.ga) ∧ w'.cell? ⟨k, 3, none⟩ = some (.int .i64 c.le) ∧ w'.cell? ⟨k, 4, none⟩ = some (.int .i64 c.re) ∧ w'.cell? ⟨k, 5, none⟩ = some (.int .i64 c.ti) ∧ w'.cell? ⟨k, 6, none⟩ = some (.slice pp np cp) ∧ w'.cell? ⟨k, 7, none⟩ = some (.slice pl nl cl) ∧ w'.cell? ⟨k, 8, none⟩ = some (.int .i64 nd) ∧ w'.cell? ⟨k, 10, none⟩ = some (.int .i64 sp)) (go_keep) (first | (go_at_call 97; refine (H1 _).out.mono ?_; rintro e1 w1 ⟨rfl, hB⟩; have hO := Own.below (by with_reducible assumption) hB; obtain ⟨c0, c1, c2, c3, c4, c5, c6, c7, c8, c9, c10, c11, c12, c13, c14, c15, c16, c17, c18, cf⟩ := rmCells hO))
  clear hB H1
  have hO2 := hO.drew
  go_wp2_with fail
  go_region_held3 (fun w' => w'.cell? ⟨k, 0, none⟩ = some (.int .i64 c.th) ∧ w'.cell? ⟨k, 1, none⟩ = some (.int .i64 c.st) ∧ w'.cell? ⟨k, 2, none⟩ = some (.int .i64 c.ga) ∧ w'.cell? ⟨k, 3, none⟩ = some (.int .i64 c.le) ∧ w'.cell? ⟨k, 4, none⟩ = some (.int .i64 c.re) ∧ w'.cell? ⟨k, 5, none⟩ = some (.int .i64 c.ti) ∧ w'.cell? ⟨k, 6, none⟩ = some (.slice pp np cp) ∧ w'.cell? ⟨k, 7, none⟩ = some (.slice pl nl cl) ∧ w'.cell? ⟨k, 8, none⟩ = some (.int .i64 nd)) (go_keep) (first | (go_at_call 80; refine (H2 _).out.mono ?_; rintro e1 w2 ⟨rfl, hB⟩; have hO3 := Own.below (by with_reducible assumption) hB; obtain ⟨c0, c1, c2, c3, c4, c5, c6, c7, c8, c9, c10, c11, c12, c13, c14, c15, c16, c17, c18, cf⟩ := rmCells hO3))
  clear hB H2 hO hO2
  have HO := Lib.hid hO3
  clear hO3
  have H3 := HLd _ _ HO.out.swap
  clear HLd HO
  go_wp2_with fail
  refine H3.out.mono ?_
  rintro e1 w3 ⟨rfl, hM⟩
  clear c0 c1 c2 c3 c4 c5 c6 c7 c8 c9 c10 c11 c12 c13 c14 c15 c16 c17 c18 cf
  obtain ⟨c0, c1, c2, c3, c4, c5, c6, c7, c8, c9, c10, c11, c12, c13, c14, c15, c16, c17, c18, cf⟩ := rmCells hM.swap
  have HM := Lib.hid hM.swap
  clear H3 hM
  have h4 := Lib.hid ((HM.out.set 12 (.int .i64 y)).set 11 (.int .i64 2))
  go_wp2_with fail
  generalize World.setCell _ _ _ = w4 at h4 ⊢
  have h4 : Own w0 F0 (blk k (rmO c pp np cp pl nl cl nd n sp 2 y a e er an) :: memA T m ws (lg ++ [⟨1, le, y, 0, false⟩]) :: L) w4 := h4.out
  clear c0 c1 c2 c3 c4 c5 c6 c7 c8 c9 c10 c11 c12 c13 c14 c15 c16 c17 c18 cf
  obtain ⟨c0, c1, c2, c3, c4, c5, c6, c7, c8, c9, c10, c11, c12, c13, c14, c15, c16, c17, c18, cf⟩ := rmCells h4
  have H4 := Lib.hid (fun q => h4.drewN q)
  clear h4
  go_quiet (fail)
  have H5 := Lib.hid (H4.out nq)
  have h5 := H5.out
  clear H4
  clear c0 c1 c2 c3 c4 c5 c6 c7 c8 c9 c10 c11 c12 c13 c14 c15 c16 c17 c18 cf
  generalize World.drewN w4 nq = w5 at *
  obtain ⟨c0, c1, c2, c3, c4, c5, c6, c7, c8, c9, c10, c11, c12, c13, c14, c15, c16, c17, c18, cf⟩ := rmCells h5
  clear h5
  have HF := Lib.hid (H5.out.set 11 (.int .i64 1))
  clear H5
  go_wp2_with fail
  go_ret
  exact ⟨rfl, HF.out⟩
set_option maxHeartbeats 1000000 in
theorem rst0_no (hr : RmOk c nd sp av le n) (hn : ws.length ≤ 1000000) (hl : lg.length < 1000000) (y : Int) (hi : le < ws.length) (hy : ws.getD le 0 = y) (hc : y < n)
    (h : Own w0 F0 (blk k (rmO c pp np cp pl nl cl nd n sp 0 l a e er an) :: memA T m ws lg :: L) w) :
    Calls Tryz.prog 77 #[.pointer (some ⟨k, 0, none⟩), .pointer (some ⟨m, 0, none⟩)] w fun en w' => en = .returned (.bool false) ∧
      Own w0 F0 (blk k (rmO c pp np cp pl nl cl nd n sp 2 y a e er an) :: memA T m ws (lg ++ [⟨1, le, y, 0, false⟩]) :: L) w' := by
  have H1 := fun w => Lib.hid (rLease_q (pp := pp) (np := np) (cp := cp) (pl := pl) (nl := nl) (cl := cl) c hr.hs nd hr.v0 hr.v1 sp hr.s0 hr.s1 w)
  have H2 := fun w => Lib.hid (rAvail_q (pp := pp) (np := np) (cp := cp) (pl := pl) (nl := nl) (cl := cl) c hr.hs nd hr.v0 hr.v1 w)
  rw [hr.p1] at H1
  rw [hr.p0] at H2
  have HLd := fun L w h => Lib.hid (rLoad_y (w0 := w0) (F0 := F0) (L := L) (T := T) (m := m) (ws := ws) (lg := lg) (w := w) le y hy hi hl h)
  clear hl hn hi hy
  obtain ⟨c0, c1, c2, c3, c4, c5, c6, c7, c8, c9, c10, c11, c12, c13, c14, c15, c16, c17, c18, cf⟩ := rmCells h
  have hO := h.drew
  clear h hr
  go_enter Tryz.func77, Tryz.ntmps77
  go_wp2_with fail
  go_region_held3 (fun w' => w'.cell? ⟨k, 0, none⟩ = some (.int .i64 c.th) ∧ w'.cell? ⟨k, 1, none⟩ = some (.int .i64 c.st) ∧ w'.cell? ⟨k, 2, none⟩ = some (.int .i64 c.ga) ∧ w'.cell? ⟨k, 3, none⟩ = some (.int .i64 c.le) ∧ w'.cell? ⟨k, 4, none⟩ = some (.int .i64 c.re) ∧ w'.cell? ⟨k, 5, none⟩ = some (.int .i64 c.ti) ∧ w'.cell? ⟨k, 6, none⟩ = some (.slice pp np cp) ∧ w'.cell? ⟨k, 7, none⟩ = some (.slice pl nl cl) ∧ w'.cell? ⟨k, 8, none⟩ = some (.int .i64 nd) ∧ w'.cell? ⟨k, 10, none⟩ = some (.int .i64 sp)) (go_keep) (first | (go_at_call 97; refine (H1 _).out.mono ?_; rintro e1 w1 ⟨rfl, hB⟩; have hO := Own.below (by with_reducible assumption) hB; obtain ⟨c0, c1, c2, c3, c4, c5, c6, c7, c8, c9, c10, c11, c12, c13, c14, c15, c16, c17, c18, cf⟩ := rmCells hO))
  clear hB H1
  have hO2 := hO.drew
  go_wp2_with fail
  go_region_held3 (fun w' => w'.cell? ⟨k, 0, none⟩ = some (.int .i64 c.th) ∧ w'.cell? ⟨k, 1, none⟩ = some (.int .i64 c.st) ∧ w'.cell? ⟨k, 2, none⟩ = some (.int .i64 c.ga) ∧ w'.cell? ⟨k, 3, none⟩ = some (.int .i64 c.le) ∧ w'.cell? ⟨k, 4, none⟩ = some (.int .i64 c.re) ∧ w'.cell? ⟨k, 5, none⟩ = some (.int .i64 c.ti) ∧ w'.cell? ⟨k, 6, none⟩ = some (.slice pp np cp) ∧ w'.cell? ⟨k, 7, none⟩ = some (.slice pl nl cl) ∧ w'.cell? ⟨k, 8, none⟩ = some (.int .i64 nd)) (go_keep) (first | (go_at_call 80; refine (H2 _).out.mono ?_; rintro e1 w2 ⟨rfl, hB⟩; have hO3 := Own.below (by with_reducible assumption) hB; obtain ⟨c0, c1, c2, c3, c4, c5, c6, c7, c8, c9, c10, c11, c12, c13, c14, c15, c16, c17, c18, cf⟩ := rmCells hO3))
  clear hB H2 hO hO2
  have HO := Lib.hid hO3
  clear hO3
  have H3 := HLd _ _ HO.out.swap
  clear HLd HO
  go_wp2_with fail
  refine H3.out.mono ?_
  rintro e1 w3 ⟨rfl, hM⟩
  clear c0 c1 c2 c3 c4 c5 c6 c7 c8 c9 c10 c11 c12 c13 c14 c15 c16 c17 c18 cf
  obtain ⟨c0, c1, c2, c3, c4, c5, c6, c7, c8, c9, c10, c11, c12, c13, c14, c15, c16, c17, c18, cf⟩ := rmCells hM.swap
  have HM := Lib.hid hM.swap
  clear H3 hM
  have h4 := Lib.hid ((HM.out.set 12 (.int .i64 y)).set 11 (.int .i64 2))
  go_wp2_with fail
  generalize World.setCell _ _ _ = w4 at h4 ⊢
  have h4 : Own w0 F0 (blk k (rmO c pp np cp pl nl cl nd n sp 2 y a e er an) :: memA T m ws (lg ++ [⟨1, le, y, 0, false⟩]) :: L) w4 := h4.out
  clear c0 c1 c2 c3 c4 c5 c6 c7 c8 c9 c10 c11 c12 c13 c14 c15 c16 c17 c18 cf
  obtain ⟨c0, c1, c2, c3, c4, c5, c6, c7, c8, c9, c10, c11, c12, c13, c14, c15, c16, c17, c18, cf⟩ := rmCells h4
  have H4 := Lib.hid (fun q => h4.drewN q)
  clear h4
  go_quiet (fail)
  have H5 := Lib.hid (H4.out nq)
  have h5 := H5.out
  clear H4
  clear c0 c1 c2 c3 c4 c5 c6 c7 c8 c9 c10 c11 c12 c13 c14 c15 c16 c17 c18 cf
  generalize World.drewN w4 nq = w5 at *
  obtain ⟨c0, c1, c2, c3, c4, c5, c6, c7, c8, c9, c10, c11, c12, c13, c14, c15, c16, c17, c18, cf⟩ := rmCells h5
  clear h5
  have HF := Lib.hid H5.out
  clear H5
  go_wp2_with fail
  go_ret
  exact ⟨rfl, HF.out⟩
set_option maxHeartbeats 1000000 in
theorem rst4_yes (hr : RmOk c nd sp av le n) (hn : ws.length ≤ 1000000) (hl : lg.length < 1000000) (y : Int) (hi : le < ws.length) (hy : ws.getD le 0 = y) (hc : y + e ≤ c.le) (y0 : -9223372036854775808 ≤ y + e) (y1 : y + e ≤ 9223372036854775807)
    (h : Own w0 F0 (blk k (rmO c pp np cp pl nl cl nd n sp 4 l a e er an) :: memA T m ws lg :: L) w) :
    Calls Tryz.prog 77 #[.pointer (some ⟨k, 0, none⟩), .pointer (some ⟨m, 0, none⟩)] w fun en w' => en = .returned (.bool false) ∧
      Own w0 F0 (blk k (rmO c pp np cp pl nl cl nd n sp 5 y a e er an) :: memA T m ws (lg ++ [⟨1, le, y, 0, false⟩]) :: L) w' := by
  have H1 := fun w => Lib.hid (rLease_q (pp := pp) (np := np) (cp := cp) (pl := pl) (nl := nl) (cl := cl) c hr.hs nd hr.v0 hr.v1 sp hr.s0 hr.s1 w)
  have H2 := fun w => Lib.hid (rAvail_q (pp := pp) (np := np) (cp := cp) (pl := pl) (nl := nl) (cl := cl) c hr.hs nd hr.v0 hr.v1 w)
  rw [hr.p1] at H1
  rw [hr.p0] at H2
  have HLd := fun L w h => Lib.hid (rLoad_y (w0 := w0) (F0 := F0) (L := L) (T := T) (m := m) (ws := ws) (lg := lg) (w := w) le y hy hi hl h)
  clear hl hn hi hy
  obtain ⟨c0, c1, c2, c3, c4, c5, c6, c7, c8, c9, c10, c11, c12, c13, c14, c15, c16, c17, c18, cf⟩ := rmCells h
  have hO := h.drew
  clear h hr
  go_enter Tryz.func77, Tryz.ntmps77
  go_wp2_with fail
  go_region_held3 (fun w' => w'.cell? ⟨k, 0, none⟩ = some (.int .i64 c.th) ∧ w'.cell? ⟨k, 1, none⟩ = some (.int .i64 c.st) ∧ w'.cell? ⟨k, 2, none⟩ = some (.int .i64 c.ga) ∧ w'.cell? ⟨k, 3, none⟩ = some (.int .i64 c.le) ∧ w'.cell? ⟨k, 4, none⟩ = some (.int .i64 c.re) ∧ w'.cell? ⟨k, 5, none⟩ = some (.int .i64 c.ti) ∧ w'.cell? ⟨k, 6, none⟩ = some (.slice pp np cp) ∧ w'.cell? ⟨k, 7, none⟩ = some (.slice pl nl cl) ∧ w'.cell? ⟨k, 8, none⟩ = some (.int .i64 nd) ∧ w'.cell? ⟨k, 10, none⟩ = some (.int .i64 sp)) (go_keep) (first | (go_at_call 97; refine (H1 _).out.mono ?_; rintro e1 w1 ⟨rfl, hB⟩; have hO := Own.below (by with_reducible assumption) hB; obtain ⟨c0, c1, c2, c3, c4, c5, c6, c7, c8, c9, c10, c11, c12, c13, c14, c15, c16, c17, c18, cf⟩ := rmCells hO))
  clear hB H1
  have hO2 := hO.drew
  go_wp2_with fail
  go_region_held3 (fun w' => w'.cell? ⟨k, 0, none⟩ = some (.int .i64 c.th) ∧ w'.cell? ⟨k, 1, none⟩ = some (.int .i64 c.st) ∧ w'.cell? ⟨k, 2, none⟩ = some (.int .i64 c.ga) ∧ w'.cell? ⟨k, 3, none⟩ = some (.int .i64 c.le) ∧ w'.cell? ⟨k, 4, none⟩ = some (.int .i64 c.re) ∧ w'.cell? ⟨k, 5, none⟩ = some (.int .i64 c.ti) ∧ w'.cell? ⟨k, 6, none⟩ = some (.slice pp np cp) ∧ w'.cell? ⟨k, 7, none⟩ = some (.slice pl nl cl) ∧ w'.cell? ⟨k, 8, none⟩ = some (.int .i64 nd)) (go_keep) (first | (go_at_call 80; refine (H2 _).out.mono ?_; rintro e1 w2 ⟨rfl, hB⟩; have hO3 := Own.below (by with_reducible assumption) hB; obtain ⟨c0, c1, c2, c3, c4, c5, c6, c7, c8, c9, c10, c11, c12, c13, c14, c15, c16, c17, c18, cf⟩ := rmCells hO3))
  clear hB H2 hO hO2
  have HO := Lib.hid hO3
  clear hO3
  have H3 := HLd _ _ HO.out.swap
  clear HLd HO
  go_wp2_with fail
  refine H3.out.mono ?_
  rintro e1 w3 ⟨rfl, hM⟩
  clear c0 c1 c2 c3 c4 c5 c6 c7 c8 c9 c10 c11 c12 c13 c14 c15 c16 c17 c18 cf
  obtain ⟨c0, c1, c2, c3, c4, c5, c6, c7, c8, c9, c10, c11, c12, c13, c14, c15, c16, c17, c18, cf⟩ := rmCells hM.swap
  have HM := Lib.hid hM.swap
  clear H3 hM
  have h4 := Lib.hid ((HM.out.set 12 (.int .i64 y)).set 11 (.int .i64 6))
  go_wp2_with fail
  generalize World.setCell _ _ _ = w4 at h4 ⊢
  have h4 : Own w0 F0 (blk k (rmO c pp np cp pl nl cl nd n sp 6 y a e er an) :: memA T m ws (lg ++ [⟨1, le, y, 0, false⟩]) :: L) w4 := h4.out
  clear c0 c1 c2 c3 c4 c5 c6 c7 c8 c9 c10 c11 c12 c13 c14 c15 c16 c17 c18 cf
  obtain ⟨c0, c1, c2, c3, c4, c5, c6, c7, c8, c9, c10, c11, c12, c13, c14, c15, c16, c17, c18, cf⟩ := rmCells h4
  have H4 := Lib.hid (fun q => h4.drewN q)
  clear h4
  go_quiet (fail)
  have H5 := Lib.hid (H4.out nq)
  have h5 := H5.out
  clear H4
  clear c0 c1 c2 c3 c4 c5 c6 c7 c8 c9 c10 c11 c12 c13 c14 c15 c16 c17 c18 cf
  generalize World.drewN w4 nq = w5 at *
  obtain ⟨c0, c1, c2, c3, c4, c5, c6, c7, c8, c9, c10, c11, c12, c13, c14, c15, c16, c17, c18, cf⟩ := rmCells h5
  clear h5
  have HF := Lib.hid (H5.out.set 11 (.int .i64 5))
  clear H5
  go_wp2_with fail
  go_ret
  exact ⟨rfl, HF.out⟩
set_option maxHeartbeats 1000000 in
theorem rst4_no (hr : RmOk c nd sp av le n) (hn : ws.length ≤ 1000000) (hl : lg.length < 1000000) (y : Int) (hi : le < ws.length) (hy : ws.getD le 0 = y) (hc : c.le < y + e) (y0 : -9223372036854775808 ≤ y + e) (y1 : y + e ≤ 9223372036854775807)
    (h : Own w0 F0 (blk k (rmO c pp np cp pl nl cl nd n sp 4 l a e er an) :: memA T m ws lg :: L) w) :
    Calls Tryz.prog 77 #[.pointer (some ⟨k, 0, none⟩), .pointer (some ⟨m, 0, none⟩)] w fun en w' => en = .returned (.bool false) ∧
      Own w0 F0 (blk k (rmO c pp np cp pl nl cl nd n sp 6 y a e er an) :: memA T m ws (lg ++ [⟨1, le, y, 0, false⟩]) :: L) w' := by
  have H1 := fun w => Lib.hid (rLease_q (pp := pp) (np := np) (cp := cp) (pl := pl) (nl := nl) (cl := cl) c hr.hs nd hr.v0 hr.v1 sp hr.s0 hr.s1 w)
  have H2 := fun w => Lib.hid (rAvail_q (pp := pp) (np := np) (cp := cp) (pl := pl) (nl := nl) (cl := cl) c hr.hs nd hr.v0 hr.v1 w)
  rw [hr.p1] at H1
  rw [hr.p0] at H2
  have HLd := fun L w h => Lib.hid (rLoad_y (w0 := w0) (F0 := F0) (L := L) (T := T) (m := m) (ws := ws) (lg := lg) (w := w) le y hy hi hl h)
  clear hl hn hi hy
  obtain ⟨c0, c1, c2, c3, c4, c5, c6, c7, c8, c9, c10, c11, c12, c13, c14, c15, c16, c17, c18, cf⟩ := rmCells h
  have hO := h.drew
  clear h hr
  go_enter Tryz.func77, Tryz.ntmps77
  go_wp2_with fail
  go_region_held3 (fun w' => w'.cell? ⟨k, 0, none⟩ = some (.int .i64 c.th) ∧ w'.cell? ⟨k, 1, none⟩ = some (.int .i64 c.st) ∧ w'.cell? ⟨k, 2, none⟩ = some (.int .i64 c.ga) ∧ w'.cell? ⟨k, 3, none⟩ = some (.int .i64 c.le) ∧ w'.cell? ⟨k, 4, none⟩ = some (.int .i64 c.re) ∧ w'.cell? ⟨k, 5, none⟩ = some (.int .i64 c.ti) ∧ w'.cell? ⟨k, 6, none⟩ = some (.slice pp np cp) ∧ w'.cell? ⟨k, 7, none⟩ = some (.slice pl nl cl) ∧ w'.cell? ⟨k, 8, none⟩ = some (.int .i64 nd) ∧ w'.cell? ⟨k, 10, none⟩ = some (.int .i64 sp)) (go_keep) (first | (go_at_call 97; refine (H1 _).out.mono ?_; rintro e1 w1 ⟨rfl, hB⟩; have hO := Own.below (by with_reducible assumption) hB; obtain ⟨c0, c1, c2, c3, c4, c5, c6, c7, c8, c9, c10, c11, c12, c13, c14, c15, c16, c17, c18, cf⟩ := rmCells hO))
  clear hB H1
  have hO2 := hO.drew
  go_wp2_with fail
  go_region_held3 (fun w' => w'.cell? ⟨k, 0, none⟩ = some (.int .i64 c.th) ∧ w'.cell? ⟨k, 1, none⟩ = some (.int .i64 c.st) ∧ w'.cell? ⟨k, 2, none⟩ = some (.int .i64 c.ga) ∧ w'.cell? ⟨k, 3, none⟩ = some (.int .i64 c.le) ∧ w'.cell? ⟨k, 4, none⟩ = some (.int .i64 c.re) ∧ w'.cell? ⟨k, 5, none⟩ = some (.int .i64 c.ti) ∧ w'.cell? ⟨k, 6, none⟩ = some (.slice pp np cp) ∧ w'.cell? ⟨k, 7, none⟩ = some (.slice pl nl cl) ∧ w'.cell? ⟨k, 8, none⟩ = some (.int .i64 nd)) (go_keep) (first | (go_at_call 80; refine (H2 _).out.mono ?_; rintro e1 w2 ⟨rfl, hB⟩; have hO3 := Own.below (by with_reducible assumption) hB; obtain ⟨c0, c1, c2, c3, c4, c5, c6, c7, c8, c9, c10, c11, c12, c13, c14, c15, c16, c17, c18, cf⟩ := rmCells hO3))
  clear hB H2 hO hO2
  have HO := Lib.hid hO3
  clear hO3
  have H3 := HLd _ _ HO.out.swap
  clear HLd HO
  go_wp2_with fail
  refine H3.out.mono ?_
  rintro e1 w3 ⟨rfl, hM⟩
  clear c0 c1 c2 c3 c4 c5 c6 c7 c8 c9 c10 c11 c12 c13 c14 c15 c16 c17 c18 cf
  obtain ⟨c0, c1, c2, c3, c4, c5, c6, c7, c8, c9, c10, c11, c12, c13, c14, c15, c16, c17, c18, cf⟩ := rmCells hM.swap
  have HM := Lib.hid hM.swap
  clear H3 hM
  have h4 := Lib.hid ((HM.out.set 12 (.int .i64 y)).set 11 (.int .i64 6))
  go_wp2_with fail
  generalize World.setCell _ _ _ = w4 at h4 ⊢
  have h4 : Own w0 F0 (blk k (rmO c pp np cp pl nl cl nd n sp 6 y a e er an) :: memA T m ws (lg ++ [⟨1, le, y, 0, false⟩]) :: L) w4 := h4.out
  clear c0 c1 c2 c3 c4 c5 c6 c7 c8 c9 c10 c11 c12 c13 c14 c15 c16 c17 c18 cf
  obtain ⟨c0, c1, c2, c3, c4, c5, c6, c7, c8, c9, c10, c11, c12, c13, c14, c15, c16, c17, c18, cf⟩ := rmCells h4
  have H4 := Lib.hid (fun q => h4.drewN q)
  clear h4
  go_quiet (fail)
  have H5 := Lib.hid (H4.out nq)
  have h5 := H5.out
  clear H4
  clear c0 c1 c2 c3 c4 c5 c6 c7 c8 c9 c10 c11 c12 c13 c14 c15 c16 c17 c18 cf
  generalize World.drewN w4 nq = w5 at *
  obtain ⟨c0, c1, c2, c3, c4, c5, c6, c7, c8, c9, c10, c11, c12, c13, c14, c15, c16, c17, c18, cf⟩ := rmCells h5
  clear h5
  have HF := Lib.hid H5.out
  clear H5
  go_wp2_with fail
  go_ret
  exact ⟨rfl, HF.out⟩
set_option maxHeartbeats 1000000 in
theorem rst2_yes (hr : RmOk c nd sp av le n) (hn : ws.length ≤ 1000000) (hl : lg.length < 1000000) (y : Int) (hi : av < ws.length) (hy : ws.getD av 0 = y) (hc : n ≤ y) (y0 : -1000000000000000000 ≤ y) (y1 : y ≤ 1000000000000000000) (n0 : 0 ≤ n) (n1 : n ≤ 1048576) (m0 : 0 ≤ c.le) (m1 : c.le ≤ 1048576)
    (h : Own w0 F0 (blk k (rmO c pp np cp pl nl cl nd n sp 2 l a e er an) :: memA T m ws lg :: L) w) :
    Calls Tryz.prog 77 #[.pointer (some ⟨k, 0, none⟩), .pointer (some ⟨m, 0, none⟩)] w fun en w' => en = .returned (.bool false) ∧
      Own w0 F0 (blk k (rmO c pp np cp pl nl cl nd n sp 3 l y (mn (y - n) (c.le / 2)) er an) :: memA T m ws (lg ++ [⟨1, av, y, 0, false⟩]) :: L) w' := by
  have H1 := fun w => Lib.hid (rLease_q (pp := pp) (np := np) (cp := cp) (pl := pl) (nl := nl) (cl := cl) c hr.hs nd hr.v0 hr.v1 sp hr.s0 hr.s1 w)
  have H2 := fun w => Lib.hid (rAvail_q (pp := pp) (np := np) (cp := cp) (pl := pl) (nl := nl) (cl := cl) c hr.hs nd hr.v0 hr.v1 w)
  rw [hr.p1] at H1
  rw [hr.p0] at H2
  have HLd := fun L w h => Lib.hid (rLoad_y (w0 := w0) (F0 := F0) (L := L) (T := T) (m := m) (ws := ws) (lg := lg) (w := w) av y hy hi hl h)
  clear hl hn hi hy
  obtain ⟨c0, c1, c2, c3, c4, c5, c6, c7, c8, c9, c10, c11, c12, c13, c14, c15, c16, c17, c18, cf⟩ := rmCells h
  have hO := h.drew
  clear h hr
  go_enter Tryz.func77, Tryz.ntmps77
  go_wp2_with fail
  go_region_held3 (fun w' => w'.cell? ⟨k, 0, none⟩ = some (.int .i64 c.th) ∧ w'.cell? ⟨k, 1, none⟩ = some (.int .i64 c.st) ∧ w'.cell? ⟨k, 2, none⟩ = some (.int .i64 c.ga) ∧ w'.cell? ⟨k, 3, none⟩ = some (.int .i64 c.le) ∧ w'.cell? ⟨k, 4, none⟩ = some (.int .i64 c.re) ∧ w'.cell? ⟨k, 5, none⟩ = some (.int .i64 c.ti) ∧ w'.cell? ⟨k, 6, none⟩ = some (.slice pp np cp) ∧ w'.cell? ⟨k, 7, none⟩ = some (.slice pl nl cl) ∧ w'.cell? ⟨k, 8, none⟩ = some (.int .i64 nd) ∧ w'.cell? ⟨k, 10, none⟩ = some (.int .i64 sp)) (go_keep) (first | (go_at_call 97; refine (H1 _).out.mono ?_; rintro e1 w1 ⟨rfl, hB⟩; have hO := Own.below (by with_reducible assumption) hB; obtain ⟨c0, c1, c2, c3, c4, c5, c6, c7, c8, c9, c10, c11, c12, c13, c14, c15, c16, c17, c18, cf⟩ := rmCells hO))
  clear hB H1
  have hO2 := hO.drew
  go_wp2_with fail
  go_region_held3 (fun w' => w'.cell? ⟨k, 0, none⟩ = some (.int .i64 c.th) ∧ w'.cell? ⟨k, 1, none⟩ = some (.int .i64 c.st) ∧ w'.cell? ⟨k, 2, none⟩ = some (.int .i64 c.ga) ∧ w'.cell? ⟨k, 3, none⟩ = some (.int .i64 c.le) ∧ w'.cell? ⟨k, 4, none⟩ = some (.int .i64 c.re) ∧ w'.cell? ⟨k, 5, none⟩ = some (.int .i64 c.ti) ∧ w'.cell? ⟨k, 6, none⟩ = some (.slice pp np cp) ∧ w'.cell? ⟨k, 7, none⟩ = some (.slice pl nl cl) ∧ w'.cell? ⟨k, 8, none⟩ = some (.int .i64 nd)) (go_keep) (first | (go_at_call 80; refine (H2 _).out.mono ?_; rintro e1 w2 ⟨rfl, hB⟩; have hO3 := Own.below (by with_reducible assumption) hB; obtain ⟨c0, c1, c2, c3, c4, c5, c6, c7, c8, c9, c10, c11, c12, c13, c14, c15, c16, c17, c18, cf⟩ := rmCells hO3))
  clear hB H2 hO hO2
  have HO := Lib.hid hO3
  clear hO3
  have H3 := HLd _ _ HO.out.swap
  clear HLd HO
  go_wp2_with fail
  refine H3.out.mono ?_
  rintro e1 w3 ⟨rfl, hM⟩
  clear c0 c1 c2 c3 c4 c5 c6 c7 c8 c9 c10 c11 c12 c13 c14 c15 c16 c17 c18 cf
  obtain ⟨c0, c1, c2, c3, c4, c5, c6, c7, c8, c9, c10, c11, c12, c13, c14, c15, c16, c17, c18, cf⟩ := rmCells hM.swap
  have HM := Lib.hid hM.swap
  clear H3 hM
  have h4 := Lib.hid ((HM.out.set 13 (.int .i64 y)).set 11 (.int .i64 3))
  go_wp2_with fail
  generalize World.setCell _ _ _ = w4 at h4 ⊢
  have h4 : Own w0 F0 (blk k (rmO c pp np cp pl nl cl nd n sp 3 l y e er an) :: memA T m ws (lg ++ [⟨1, av, y, 0, false⟩]) :: L) w4 := h4.out
  clear c0 c1 c2 c3 c4 c5 c6 c7 c8 c9 c10 c11 c12 c13 c14 c15 c16 c17 c18 cf
  obtain ⟨c0, c1, c2, c3, c4, c5, c6, c7, c8, c9, c10, c11, c12, c13, c14, c15, c16, c17, c18, cf⟩ := rmCells h4
  have H4 := Lib.hid ((h4.set 14 (.int .i64 (mn (y - n) (c.le / 2)))).drew)
  clear h4
  have hq : c.le.tdiv 2 = c.le / 2 := Int.tdiv_eq_ediv_of_nonneg m0
  go_region
  have hm : (if c.le / 2 < y - n then c.le / 2 else y - n) = mn (y - n) (c.le / 2) := rmn_alt _ _
  rw [hm]
  clear hm
  clear c0 c1 c2 c3 c4 c5 c6 c7 c8 c9 c10 c11 c12 c13 c14 c15 c16 c17 c18 cf
  generalize World.drew _ = w5 at H4 ⊢
  have h5 : Own w0 F0 (blk k (rmO c pp np cp pl nl cl nd n sp 3 l y (mn (y - n) (c.le / 2)) er an) :: memA T m ws (lg ++ [⟨1, av, y, 0, false⟩]) :: L) w5 := H4.out
  obtain ⟨c0, c1, c2, c3, c4, c5, c6, c7, c8, c9, c10, c11, c12, c13, c14, c15, c16, c17, c18, cf⟩ := rmCells h5
  have H5 := Lib.hid (fun q => h5.drewN q)
  clear h5 H4 hq
  obtain ⟨e', he'⟩ : ∃ e', e' = mn (y - n) (c.le / 2) := ⟨_, rfl⟩
  rw [← he'] at H5 c14 ⊢
  have HE := Lib.hid he'
  clear he'
  go_wp2_with fail
  go_quiet (fail)
  have H6 := Lib.hid (H5.out nq)
  have h6 := H6.out
  clear H5
  clear c0 c1 c2 c3 c4 c5 c6 c7 c8 c9 c10 c11 c12 c13 c14 c15 c16 c17 c18 cf
  generalize World.drewN w5 nq = w6 at *
  obtain ⟨c0, c1, c2, c3, c4, c5, c6, c7, c8, c9, c10, c11, c12, c13, c14, c15, c16, c17, c18, cf⟩ := rmCells h6
  clear h6
  have HF := Lib.hid H6.out
  clear H6
  go_wp2_with fail
  go_ret
  exact ⟨rfl, by rw [← HE.out]; exact HF.out⟩
set_option maxHeartbeats 1000000 in
theorem rst2_no (hr : RmOk c nd sp av le n) (hn : ws.length ≤ 1000000) (hl : lg.length < 1000000) (y : Int) (hi : av < ws.length) (hy : ws.getD av 0 = y) (hc : y < n) (y0 : -1000000000000000000 ≤ y) (y1 : y ≤ 1000000000000000000) (n0 : 0 ≤ n) (n1 : n ≤ 1048576) (m0 : 0 ≤ c.le) (m1 : c.le ≤ 1048576)
    (h : Own w0 F0 (blk k (rmO c pp np cp pl nl cl nd n sp 2 l a e er an) :: memA T m ws lg :: L) w) :
    Calls Tryz.prog 77 #[.pointer (some ⟨k, 0, none⟩), .pointer (some ⟨m, 0, none⟩)] w fun en w' => en = .returned (.bool true) ∧
      Own w0 F0 (blk k (rmO c pp np cp pl nl cl nd n sp 9 l y (y - n) 4 nd) :: memA T m ws (lg ++ [⟨1, av, y, 0, false⟩]) :: L) w' := by
  have H1 := fun w => Lib.hid (rLease_q (pp := pp) (np := np) (cp := cp) (pl := pl) (nl := nl) (cl := cl) c hr.hs nd hr.v0 hr.v1 sp hr.s0 hr.s1 w)
  have H2 := fun w => Lib.hid (rAvail_q (pp := pp) (np := np) (cp := cp) (pl := pl) (nl := nl) (cl := cl) c hr.hs nd hr.v0 hr.v1 w)
  rw [hr.p1] at H1
  rw [hr.p0] at H2
  have HLd := fun L w h => Lib.hid (rLoad_y (w0 := w0) (F0 := F0) (L := L) (T := T) (m := m) (ws := ws) (lg := lg) (w := w) av y hy hi hl h)
  clear hl hn hi hy
  obtain ⟨c0, c1, c2, c3, c4, c5, c6, c7, c8, c9, c10, c11, c12, c13, c14, c15, c16, c17, c18, cf⟩ := rmCells h
  have hO := h.drew
  clear h hr
  go_enter Tryz.func77, Tryz.ntmps77
  go_wp2_with fail
  go_region_held3 (fun w' => w'.cell? ⟨k, 0, none⟩ = some (.int .i64 c.th) ∧ w'.cell? ⟨k, 1, none⟩ = some (.int .i64 c.st) ∧ w'.cell? ⟨k, 2, none⟩ = some (.int .i64 c.ga) ∧ w'.cell? ⟨k, 3, none⟩ = some (.int .i64 c.le) ∧ w'.cell? ⟨k, 4, none⟩ = some (.int .i64 c.re) ∧ w'.cell? ⟨k, 5, none⟩ = some (.int .i64 c.ti) ∧ w'.cell? ⟨k, 6, none⟩ = some (.slice pp np cp) ∧ w'.cell? ⟨k, 7, none⟩ = some (.slice pl nl cl) ∧ w'.cell? ⟨k, 8, none⟩ = some (.int .i64 nd) ∧ w'.cell? ⟨k, 10, none⟩ = some (.int .i64 sp)) (go_keep) (first | (go_at_call 97; refine (H1 _).out.mono ?_; rintro e1 w1 ⟨rfl, hB⟩; have hO := Own.below (by with_reducible assumption) hB; obtain ⟨c0, c1, c2, c3, c4, c5, c6, c7, c8, c9, c10, c11, c12, c13, c14, c15, c16, c17, c18, cf⟩ := rmCells hO))
  clear hB H1
  have hO2 := hO.drew
  go_wp2_with fail
  go_region_held3 (fun w' => w'.cell? ⟨k, 0, none⟩ = some (.int .i64 c.th) ∧ w'.cell? ⟨k, 1, none⟩ = some (.int .i64 c.st) ∧ w'.cell? ⟨k, 2, none⟩ = some (.int .i64 c.ga) ∧ w'.cell? ⟨k, 3, none⟩ = some (.int .i64 c.le) ∧ w'.cell? ⟨k, 4, none⟩ = some (.int .i64 c.re) ∧ w'.cell? ⟨k, 5, none⟩ = some (.int .i64 c.ti) ∧ w'.cell? ⟨k, 6, none⟩ = some (.slice pp np cp) ∧ w'.cell? ⟨k, 7, none⟩ = some (.slice pl nl cl) ∧ w'.cell? ⟨k, 8, none⟩ = some (.int .i64 nd)) (go_keep) (first | (go_at_call 80; refine (H2 _).out.mono ?_; rintro e1 w2 ⟨rfl, hB⟩; have hO3 := Own.below (by with_reducible assumption) hB; obtain ⟨c0, c1, c2, c3, c4, c5, c6, c7, c8, c9, c10, c11, c12, c13, c14, c15, c16, c17, c18, cf⟩ := rmCells hO3))
  clear hB H2 hO hO2
  have HO := Lib.hid hO3
  clear hO3
  have H3 := HLd _ _ HO.out.swap
  clear HLd HO
  go_wp2_with fail
  refine H3.out.mono ?_
  rintro e1 w3 ⟨rfl, hM⟩
  clear c0 c1 c2 c3 c4 c5 c6 c7 c8 c9 c10 c11 c12 c13 c14 c15 c16 c17 c18 cf
  obtain ⟨c0, c1, c2, c3, c4, c5, c6, c7, c8, c9, c10, c11, c12, c13, c14, c15, c16, c17, c18, cf⟩ := rmCells hM.swap
  have HM := Lib.hid hM.swap
  clear H3 hM
  have h4 := Lib.hid ((HM.out.set 13 (.int .i64 y)).set 11 (.int .i64 3))
  go_wp2_with fail
  generalize World.setCell _ _ _ = w4 at h4 ⊢
  have h4 : Own w0 F0 (blk k (rmO c pp np cp pl nl cl nd n sp 3 l y e er an) :: memA T m ws (lg ++ [⟨1, av, y, 0, false⟩]) :: L) w4 := h4.out
  clear c0 c1 c2 c3 c4 c5 c6 c7 c8 c9 c10 c11 c12 c13 c14 c15 c16 c17 c18 cf
  obtain ⟨c0, c1, c2, c3, c4, c5, c6, c7, c8, c9, c10, c11, c12, c13, c14, c15, c16, c17, c18, cf⟩ := rmCells h4
  have H4 := Lib.hid ((h4.set 14 (.int .i64 (y - n))).drew)
  clear h4
  have hq : c.le.tdiv 2 = c.le / 2 := Int.tdiv_eq_ediv_of_nonneg m0
  go_region
  clear c0 c1 c2 c3 c4 c5 c6 c7 c8 c9 c10 c11 c12 c13 c14 c15 c16 c17 c18 cf
  generalize World.drew _ = w5 at H4 ⊢
  have h5 : Own w0 F0 (blk k (rmO c pp np cp pl nl cl nd n sp 3 l y (y - n) er an) :: memA T m ws (lg ++ [⟨1, av, y, 0, false⟩]) :: L) w5 := H4.out
  obtain ⟨c0, c1, c2, c3, c4, c5, c6, c7, c8, c9, c10, c11, c12, c13, c14, c15, c16, c17, c18, cf⟩ := rmCells h5
  have H5 := Lib.hid (fun q => h5.drewN q)
  clear h5 H4 hq
  go_wp2_with fail
  go_quiet (fail)
  have H6 := Lib.hid (H5.out nq)
  have h6 := H6.out
  clear H5
  clear c0 c1 c2 c3 c4 c5 c6 c7 c8 c9 c10 c11 c12 c13 c14 c15 c16 c17 c18 cf
  generalize World.drewN w5 nq = w6 at *
  obtain ⟨c0, c1, c2, c3, c4, c5, c6, c7, c8, c9, c10, c11, c12, c13, c14, c15, c16, c17, c18, cf⟩ := rmCells h6
  clear h6
  have HF := Lib.hid (((((H6.out.set 15 (.int .i64 4)).set 16 (.int .i64 0)).set 17 (.bool false)).set 18 (.int .i64 nd)).set 11 (.int .i64 9))
  clear H6
  go_wp2_with fail
  go_ret
  exact ⟨rfl, HF.out⟩
set_option maxHeartbeats 1000000 in
theorem rst1_yes (hr : RmOk c nd sp av le n) (hn : ws.length ≤ 1000000) (hl : lg.length < 1000000) (hi : le < ws.length) (he : ws.getD le 0 = l) (b0 : -9223372036854775808 ≤ l - n) (b1 : l - n ≤ 9223372036854775807)
    (h : Own w0 F0 (blk k (rmO c pp np cp pl nl cl nd n sp 1 l a e er an) :: memA T m ws lg :: L) w) :
    Calls Tryz.prog 77 #[.pointer (some ⟨k, 0, none⟩), .pointer (some ⟨m, 0, none⟩)] w fun en w' => en = .returned (.bool true) ∧
      Own w0 F0 (blk k (rmO c pp np cp pl nl cl nd n sp 9 l a e er an) :: memA T m (ws.set le (l - n)) (lg ++ [⟨3, le, l, l - n, true⟩]) :: L) w' := by
  have H1 := fun w => Lib.hid (rLease_q (pp := pp) (np := np) (cp := cp) (pl := pl) (nl := nl) (cl := cl) c hr.hs nd hr.v0 hr.v1 sp hr.s0 hr.s1 w)
  have H2 := fun w => Lib.hid (rAvail_q (pp := pp) (np := np) (cp := cp) (pl := pl) (nl := nl) (cl := cl) c hr.hs nd hr.v0 hr.v1 w)
  rw [hr.p1] at H1
  rw [hr.p0] at H2
  have HC := fun L w h => Lib.hid (rCas_yes (w0 := w0) (F0 := F0) (T := T) (m := m) (ws := ws) (l := lg) (w := w) (L := L) le l (l - n) hi hn hl he h)
  have hw1 : IntKind.i64.wrap (l - n) = l - n := IntWalk.i64_in _ (by omega)
  clear hl hn hi he
  obtain ⟨c0, c1, c2, c3, c4, c5, c6, c7, c8, c9, c10, c11, c12, c13, c14, c15, c16, c17, c18, cf⟩ := rmCells h
  have hO := h.drew
  clear h hr
  go_enter Tryz.func77, Tryz.ntmps77
  go_wp2_with fail
  go_region_held3 (fun w' => w'.cell? ⟨k, 0, none⟩ = some (.int .i64 c.th) ∧ w'.cell? ⟨k, 1, none⟩ = some (.int .i64 c.st) ∧ w'.cell? ⟨k, 2, none⟩ = some (.int .i64 c.ga) ∧ w'.cell? ⟨k, 3, none⟩ = some (.int .i64 c.le) ∧ w'.cell? ⟨k, 4, none⟩ = some (.int .i64 c.re) ∧ w'.cell? ⟨k, 5, none⟩ = some (.int .i64 c.ti) ∧ w'.cell? ⟨k, 6, none⟩ = some (.slice pp np cp) ∧ w'.cell? ⟨k, 7, none⟩ = some (.slice pl nl cl) ∧ w'.cell? ⟨k, 8, none⟩ = some (.int .i64 nd) ∧ w'.cell? ⟨k, 10, none⟩ = some (.int .i64 sp)) (go_keep) (first | (go_at_call 97; refine (H1 _).out.mono ?_; rintro e1 w1 ⟨rfl, hB⟩; have hO := Own.below (by with_reducible assumption) hB; obtain ⟨c0, c1, c2, c3, c4, c5, c6, c7, c8, c9, c10, c11, c12, c13, c14, c15, c16, c17, c18, cf⟩ := rmCells hO))
  clear hB H1
  have hO2 := hO.drew
  go_wp2_with fail
  go_region_held3 (fun w' => w'.cell? ⟨k, 0, none⟩ = some (.int .i64 c.th) ∧ w'.cell? ⟨k, 1, none⟩ = some (.int .i64 c.st) ∧ w'.cell? ⟨k, 2, none⟩ = some (.int .i64 c.ga) ∧ w'.cell? ⟨k, 3, none⟩ = some (.int .i64 c.le) ∧ w'.cell? ⟨k, 4, none⟩ = some (.int .i64 c.re) ∧ w'.cell? ⟨k, 5, none⟩ = some (.int .i64 c.ti) ∧ w'.cell? ⟨k, 6, none⟩ = some (.slice pp np cp) ∧ w'.cell? ⟨k, 7, none⟩ = some (.slice pl nl cl) ∧ w'.cell? ⟨k, 8, none⟩ = some (.int .i64 nd)) (go_keep) (first | (go_at_call 80; refine (H2 _).out.mono ?_; rintro e1 w2 ⟨rfl, hB⟩; have hO3 := Own.below (by with_reducible assumption) hB; obtain ⟨c0, c1, c2, c3, c4, c5, c6, c7, c8, c9, c10, c11, c12, c13, c14, c15, c16, c17, c18, cf⟩ := rmCells hO3))
  clear hB H2 hO hO2
  have HO := Lib.hid hO3
  clear hO3
  have h4 := Lib.hid (HO.out.set 11 (.int .i64 0))
  clear HO
  go_wp2_with fail
  generalize World.setCell _ _ _ = w4 at h4 ⊢
  have h4 : Own w0 F0 (blk k (rmO c pp np cp pl nl cl nd n sp 0 l a e er an) :: memA T m ws lg :: L) w4 := h4.out
  clear c0 c1 c2 c3 c4 c5 c6 c7 c8 c9 c10 c11 c12 c13 c14 c15 c16 c17 c18 cf
  obtain ⟨c0, c1, c2, c3, c4, c5, c6, c7, c8, c9, c10, c11, c12, c13, c14, c15, c16, c17, c18, cf⟩ := rmCells h4
  have hO := h4.swap.drew
  clear h4
  go_region_held3 (fun w' => w'.cell? ⟨k, 12, none⟩ = some (.int .i64 l) ∧ w'.cell? ⟨k, 9, none⟩ = some (.int .i64 n)) (go_keep) (first | (go_at_call 114; with_reducible refine Calls.mono (Hid.out (HC _ _ hO)) ?_; rintro e1 w5 ⟨rfl, hM⟩; obtain ⟨c0, c1, c2, c3, c4, c5, c6, c7, c8, c9, c10, c11, c12, c13, c14, c15, c16, c17, c18, cf⟩ := rmCells hM.swap))
  have HM := Lib.hid hM.swap
  clear hO HC hM
  have HF := Lib.hid (HM.out.set 11 (.int .i64 9))
  clear HM
  go_wp2_with fail
  go_ret
  exact ⟨rfl, HF.out⟩
set_option maxHeartbeats 1000000 in
theorem rst1_no (hr : RmOk c nd sp av le n) (hn : ws.length ≤ 1000000) (hl : lg.length < 1000000) (hi : le < ws.length) (he : ws.getD le 0 ≠ l) (b0 : -9223372036854775808 ≤ l - n) (b1 : l - n ≤ 9223372036854775807)
    (h : Own w0 F0 (blk k (rmO c pp np cp pl nl cl nd n sp 1 l a e er an) :: memA T m ws lg :: L) w) :
    Calls Tryz.prog 77 #[.pointer (some ⟨k, 0, none⟩), .pointer (some ⟨m, 0, none⟩)] w fun en w' => en = .returned (.bool false) ∧
      Own w0 F0 (blk k (rmO c pp np cp pl nl cl nd n sp 0 l a e er an) :: memA T m ws (lg ++ [⟨3, le, l, l - n, false⟩]) :: L) w' := by
  have H1 := fun w => Lib.hid (rLease_q (pp := pp) (np := np) (cp := cp) (pl := pl) (nl := nl) (cl := cl) c hr.hs nd hr.v0 hr.v1 sp hr.s0 hr.s1 w)
  have H2 := fun w => Lib.hid (rAvail_q (pp := pp) (np := np) (cp := cp) (pl := pl) (nl := nl) (cl := cl) c hr.hs nd hr.v0 hr.v1 w)
  rw [hr.p1] at H1
  rw [hr.p0] at H2
  have HC := fun L w h => Lib.hid (rCas_no (w0 := w0) (F0 := F0) (T := T) (m := m) (ws := ws) (l := lg) (w := w) (L := L) le l (l - n) hi hl he h)
  have hw1 : IntKind.i64.wrap (l - n) = l - n := IntWalk.i64_in _ (by omega)
  clear hl hn hi he
  obtain ⟨c0, c1, c2, c3, c4, c5, c6, c7, c8, c9, c10, c11, c12, c13, c14, c15, c16, c17, c18, cf⟩ := rmCells h
  have hO := h.drew
  clear h hr
  go_enter Tryz.func77, Tryz.ntmps77
  go_wp2_with fail
  go_region_held3 (fun w' => w'.cell? ⟨k, 0, none⟩ = some (.int .i64 c.th) ∧ w'.cell? ⟨k, 1, none⟩ = some (.int .i64 c.st) ∧ w'.cell? ⟨k, 2, none⟩ = some (.int .i64 c.ga) ∧ w'.cell? ⟨k, 3, none⟩ = some (.int .i64 c.le) ∧ w'.cell? ⟨k, 4, none⟩ = some (.int .i64 c.re) ∧ w'.cell? ⟨k, 5, none⟩ = some (.int .i64 c.ti) ∧ w'.cell? ⟨k, 6, none⟩ = some (.slice pp np cp) ∧ w'.cell? ⟨k, 7, none⟩ = some (.slice pl nl cl) ∧ w'.cell? ⟨k, 8, none⟩ = some (.int .i64 nd) ∧ w'.cell? ⟨k, 10, none⟩ = some (.int .i64 sp)) (go_keep) (first | (go_at_call 97; refine (H1 _).out.mono ?_; rintro e1 w1 ⟨rfl, hB⟩; have hO := Own.below (by with_reducible assumption) hB; obtain ⟨c0, c1, c2, c3, c4, c5, c6, c7, c8, c9, c10, c11, c12, c13, c14, c15, c16, c17, c18, cf⟩ := rmCells hO))
  clear hB H1
  have hO2 := hO.drew
  go_wp2_with fail
  go_region_held3 (fun w' => w'.cell? ⟨k, 0, none⟩ = some (.int .i64 c.th) ∧ w'.cell? ⟨k, 1, none⟩ = some (.int .i64 c.st) ∧ w'.cell? ⟨k, 2, none⟩ = some (.int .i64 c.ga) ∧ w'.cell? ⟨k, 3, none⟩ = some (.int .i64 c.le) ∧ w'.cell? ⟨k, 4, none⟩ = some (.int .i64 c.re) ∧ w'.cell? ⟨k, 5, none⟩ = some (.int .i64 c.ti) ∧ w'.cell? ⟨k, 6, none⟩ = some (.slice pp np cp) ∧ w'.cell? ⟨k, 7, none⟩ = some (.slice pl nl cl) ∧ w'.cell? ⟨k, 8, none⟩ = some (.int .i64 nd)) (go_keep) (first | (go_at_call 80; refine (H2 _).out.mono ?_; rintro e1 w2 ⟨rfl, hB⟩; have hO3 := Own.below (by with_reducible assumption) hB; obtain ⟨c0, c1, c2, c3, c4, c5, c6, c7, c8, c9, c10, c11, c12, c13, c14, c15, c16, c17, c18, cf⟩ := rmCells hO3))
  clear hB H2 hO hO2
  have HO := Lib.hid hO3
  clear hO3
  have h4 := Lib.hid (HO.out.set 11 (.int .i64 0))
  clear HO
  go_wp2_with fail
  generalize World.setCell _ _ _ = w4 at h4 ⊢
  have h4 : Own w0 F0 (blk k (rmO c pp np cp pl nl cl nd n sp 0 l a e er an) :: memA T m ws lg :: L) w4 := h4.out
  clear c0 c1 c2 c3 c4 c5 c6 c7 c8 c9 c10 c11 c12 c13 c14 c15 c16 c17 c18 cf
  obtain ⟨c0, c1, c2, c3, c4, c5, c6, c7, c8, c9, c10, c11, c12, c13, c14, c15, c16, c17, c18, cf⟩ := rmCells h4
  have hO := h4.swap.drew
  clear h4
  go_region_held3 (fun w' => w'.cell? ⟨k, 12, none⟩ = some (.int .i64 l) ∧ w'.cell? ⟨k, 9, none⟩ = some (.int .i64 n)) (go_keep) (first | (go_at_call 114; with_reducible refine Calls.mono (Hid.out (HC _ _ hO)) ?_; rintro e1 w5 ⟨rfl, hM⟩; obtain ⟨c0, c1, c2, c3, c4, c5, c6, c7, c8, c9, c10, c11, c12, c13, c14, c15, c16, c17, c18, cf⟩ := rmCells hM.swap))
  have HM := Lib.hid hM.swap
  clear hO HC hM
  have HF := Lib.hid HM.out
  clear HM
  go_wp2_with fail
  go_ret
  exact ⟨rfl, HF.out⟩
set_option maxHeartbeats 1000000 in
theorem rst5_yes (hr : RmOk c nd sp av le n) (hn : ws.length ≤ 1000000) (hl : lg.length < 1000000) (hi : le < ws.length) (he : ws.getD le 0 = l) (b0 : -9223372036854775808 ≤ l + e) (b1 : l + e ≤ 9223372036854775807)
    (h : Own w0 F0 (blk k (rmO c pp np cp pl nl cl nd n sp 5 l a e er an) :: memA T m ws lg :: L) w) :
    Calls Tryz.prog 77 #[.pointer (some ⟨k, 0, none⟩), .pointer (some ⟨m, 0, none⟩)] w fun en w' => en = .returned (.bool true) ∧
      Own w0 F0 (blk k (rmO c pp np cp pl nl cl nd n sp 9 l a e er an) :: memA T m (ws.set le (l + e)) (lg ++ [⟨3, le, l, l + e, true⟩]) :: L) w' := by
  have H1 := fun w => Lib.hid (rLease_q (pp := pp) (np := np) (cp := cp) (pl := pl) (nl := nl) (cl := cl) c hr.hs nd hr.v0 hr.v1 sp hr.s0 hr.s1 w)
  have H2 := fun w => Lib.hid (rAvail_q (pp := pp) (np := np) (cp := cp) (pl := pl) (nl := nl) (cl := cl) c hr.hs nd hr.v0 hr.v1 w)
  rw [hr.p1] at H1
  rw [hr.p0] at H2
  have HC := fun L w h => Lib.hid (rCas_yes (w0 := w0) (F0 := F0) (T := T) (m := m) (ws := ws) (l := lg) (w := w) (L := L) le l (l + e) hi hn hl he h)
  have hw1 : IntKind.i64.wrap (l + e) = l + e := IntWalk.i64_in _ (by omega)
  clear hl hn hi he
  obtain ⟨c0, c1, c2, c3, c4, c5, c6, c7, c8, c9, c10, c11, c12, c13, c14, c15, c16, c17, c18, cf⟩ := rmCells h
  have hO := h.drew
  clear h hr
  go_enter Tryz.func77, Tryz.ntmps77
  go_wp2_with fail
  go_region_held3 (fun w' => w'.cell? ⟨k, 0, none⟩ = some (.int .i64 c.th) ∧ w'.cell? ⟨k, 1, none⟩ = some (.int .i64 c.st) ∧ w'.cell? ⟨k, 2, none⟩ = some (.int .i64 c.ga) ∧ w'.cell? ⟨k, 3, none⟩ = some (.int .i64 c.le) ∧ w'.cell? ⟨k, 4, none⟩ = some (.int .i64 c.re) ∧ w'.cell? ⟨k, 5, none⟩ = some (.int .i64 c.ti) ∧ w'.cell? ⟨k, 6, none⟩ = some (.slice pp np cp) ∧ w'.cell? ⟨k, 7, none⟩ = some (.slice pl nl cl) ∧ w'.cell? ⟨k, 8, none⟩ = some (.int .i64 nd) ∧ w'.cell? ⟨k, 10, none⟩ = some (.int .i64 sp)) (go_keep) (first | (go_at_call 97; refine (H1 _).out.mono ?_; rintro e1 w1 ⟨rfl, hB⟩; have hO := Own.below (by with_reducible assumption) hB; obtain ⟨c0, c1, c2, c3, c4, c5, c6, c7, c8, c9, c10, c11, c12, c13, c14, c15, c16, c17, c18, cf⟩ := rmCells hO))
  clear hB H1
  have hO2 := hO.drew
  go_wp2_with fail
  go_region_held3 (fun w' => w'.cell? ⟨k, 0, none⟩ = some (.int .i64 c.th) ∧ w'.cell? ⟨k, 1, none⟩ = some (.int .i64 c.st) ∧ w'.cell? ⟨k, 2, none⟩ = some (.int .i64 c.ga) ∧ w'.cell? ⟨k, 3, none⟩ = some (.int .i64 c.le) ∧ w'.cell? ⟨k, 4, none⟩ = some (.int .i64 c.re) ∧ w'.cell? ⟨k, 5, none⟩ = some (.int .i64 c.ti) ∧ w'.cell? ⟨k, 6, none⟩ = some (.slice pp np cp) ∧ w'.cell? ⟨k, 7, none⟩ = some (.slice pl nl cl) ∧ w'.cell? ⟨k, 8, none⟩ = some (.int .i64 nd)) (go_keep) (first | (go_at_call 80; refine (H2 _).out.mono ?_; rintro e1 w2 ⟨rfl, hB⟩; have hO3 := Own.below (by with_reducible assumption) hB; obtain ⟨c0, c1, c2, c3, c4, c5, c6, c7, c8, c9, c10, c11, c12, c13, c14, c15, c16, c17, c18, cf⟩ := rmCells hO3))
  clear hB H2 hO hO2
  have HO := Lib.hid hO3
  clear hO3
  have h4 := Lib.hid (HO.out.set 11 (.int .i64 4))
  clear HO
  go_wp2_with fail
  generalize World.setCell _ _ _ = w4 at h4 ⊢
  have h4 : Own w0 F0 (blk k (rmO c pp np cp pl nl cl nd n sp 4 l a e er an) :: memA T m ws lg :: L) w4 := h4.out
  clear c0 c1 c2 c3 c4 c5 c6 c7 c8 c9 c10 c11 c12 c13 c14 c15 c16 c17 c18 cf
  obtain ⟨c0, c1, c2, c3, c4, c5, c6, c7, c8, c9, c10, c11, c12, c13, c14, c15, c16, c17, c18, cf⟩ := rmCells h4
  have hO := h4.swap.drew
  clear h4
  go_region_held3 (fun w' => w'.cell? ⟨k, 12, none⟩ = some (.int .i64 l) ∧ w'.cell? ⟨k, 14, none⟩ = some (.int .i64 e)) (go_keep) (first | (go_at_call 114; with_reducible refine Calls.mono (Hid.out (HC _ _ hO)) ?_; rintro e1 w5 ⟨rfl, hM⟩; obtain ⟨c0, c1, c2, c3, c4, c5, c6, c7, c8, c9, c10, c11, c12, c13, c14, c15, c16, c17, c18, cf⟩ := rmCells hM.swap))
  have HM := Lib.hid hM.swap
  clear hO HC hM
  have HF := Lib.hid (HM.out.set 11 (.int .i64 9))
  clear HM
  go_wp2_with fail
  go_ret
  exact ⟨rfl, HF.out⟩
set_option maxHeartbeats 1000000 in
theorem rst5_no (hr : RmOk c nd sp av le n) (hn : ws.length ≤ 1000000) (hl : lg.length < 1000000) (hi : le < ws.length) (he : ws.getD le 0 ≠ l) (b0 : -9223372036854775808 ≤ l + e) (b1 : l + e ≤ 9223372036854775807)
    (h : Own w0 F0 (blk k (rmO c pp np cp pl nl cl nd n sp 5 l a e er an) :: memA T m ws lg :: L) w) :
    Calls Tryz.prog 77 #[.pointer (some ⟨k, 0, none⟩), .pointer (some ⟨m, 0, none⟩)] w fun en w' => en = .returned (.bool false) ∧
      Own w0 F0 (blk k (rmO c pp np cp pl nl cl nd n sp 4 l a e er an) :: memA T m ws (lg ++ [⟨3, le, l, l + e, false⟩]) :: L) w' := by
  have H1 := fun w => Lib.hid (rLease_q (pp := pp) (np := np) (cp := cp) (pl := pl) (nl := nl) (cl := cl) c hr.hs nd hr.v0 hr.v1 sp hr.s0 hr.s1 w)
  have H2 := fun w => Lib.hid (rAvail_q (pp := pp) (np := np) (cp := cp) (pl := pl) (nl := nl) (cl := cl) c hr.hs nd hr.v0 hr.v1 w)
  rw [hr.p1] at H1
  rw [hr.p0] at H2
  have HC := fun L w h => Lib.hid (rCas_no (w0 := w0) (F0 := F0) (T := T) (m := m) (ws := ws) (l := lg) (w := w) (L := L) le l (l + e) hi hl he h)
  have hw1 : IntKind.i64.wrap (l + e) = l + e := IntWalk.i64_in _ (by omega)
  clear hl hn hi he
  obtain ⟨c0, c1, c2, c3, c4, c5, c6, c7, c8, c9, c10, c11, c12, c13, c14, c15, c16, c17, c18, cf⟩ := rmCells h
  have hO := h.drew
  clear h hr
  go_enter Tryz.func77, Tryz.ntmps77
  go_wp2_with fail
  go_region_held3 (fun w' => w'.cell? ⟨k, 0, none⟩ = some (.int .i64 c.th) ∧ w'.cell? ⟨k, 1, none⟩ = some (.int .i64 c.st) ∧ w'.cell? ⟨k, 2, none⟩ = some (.int .i64 c.ga) ∧ w'.cell? ⟨k, 3, none⟩ = some (.int .i64 c.le) ∧ w'.cell? ⟨k, 4, none⟩ = some (.int .i64 c.re) ∧ w'.cell? ⟨k, 5, none⟩ = some (.int .i64 c.ti) ∧ w'.cell? ⟨k, 6, none⟩ = some (.slice pp np cp) ∧ w'.cell? ⟨k, 7, none⟩ = some (.slice pl nl cl) ∧ w'.cell? ⟨k, 8, none⟩ = some (.int .i64 nd) ∧ w'.cell? ⟨k, 10, none⟩ = some (.int .i64 sp)) (go_keep) (first | (go_at_call 97; refine (H1 _).out.mono ?_; rintro e1 w1 ⟨rfl, hB⟩; have hO := Own.below (by with_reducible assumption) hB; obtain ⟨c0, c1, c2, c3, c4, c5, c6, c7, c8, c9, c10, c11, c12, c13, c14, c15, c16, c17, c18, cf⟩ := rmCells hO))
  clear hB H1
  have hO2 := hO.drew
  go_wp2_with fail
  go_region_held3 (fun w' => w'.cell? ⟨k, 0, none⟩ = some (.int .i64 c.th) ∧ w'.cell? ⟨k, 1, none⟩ = some (.int .i64 c.st) ∧ w'.cell? ⟨k, 2, none⟩ = some (.int .i64 c.ga) ∧ w'.cell? ⟨k, 3, none⟩ = some (.int .i64 c.le) ∧ w'.cell? ⟨k, 4, none⟩ = some (.int .i64 c.re) ∧ w'.cell? ⟨k, 5, none⟩ = some (.int .i64 c.ti) ∧ w'.cell? ⟨k, 6, none⟩ = some (.slice pp np cp) ∧ w'.cell? ⟨k, 7, none⟩ = some (.slice pl nl cl) ∧ w'.cell? ⟨k, 8, none⟩ = some (.int .i64 nd)) (go_keep) (first | (go_at_call 80; refine (H2 _).out.mono ?_; rintro e1 w2 ⟨rfl, hB⟩; have hO3 := Own.below (by with_reducible assumption) hB; obtain ⟨c0, c1, c2, c3, c4, c5, c6, c7, c8, c9, c10, c11, c12, c13, c14, c15, c16, c17, c18, cf⟩ := rmCells hO3))
  clear hB H2 hO hO2
  have HO := Lib.hid hO3
  clear hO3
  have h4 := Lib.hid (HO.out.set 11 (.int .i64 4))
  clear HO
  go_wp2_with fail
  generalize World.setCell _ _ _ = w4 at h4 ⊢
  have h4 : Own w0 F0 (blk k (rmO c pp np cp pl nl cl nd n sp 4 l a e er an) :: memA T m ws lg :: L) w4 := h4.out
  clear c0 c1 c2 c3 c4 c5 c6 c7 c8 c9 c10 c11 c12 c13 c14 c15 c16 c17 c18 cf
  obtain ⟨c0, c1, c2, c3, c4, c5, c6, c7, c8, c9, c10, c11, c12, c13, c14, c15, c16, c17, c18, cf⟩ := rmCells h4
  have hO := h4.swap.drew
  clear h4
  go_region_held3 (fun w' => w'.cell? ⟨k, 12, none⟩ = some (.int .i64 l) ∧ w'.cell? ⟨k, 14, none⟩ = some (.int .i64 e)) (go_keep) (first | (go_at_call 114; with_reducible refine Calls.mono (Hid.out (HC _ _ hO)) ?_; rintro e1 w5 ⟨rfl, hM⟩; obtain ⟨c0, c1, c2, c3, c4, c5, c6, c7, c8, c9, c10, c11, c12, c13, c14, c15, c16, c17, c18, cf⟩ := rmCells hM.swap))
  have HM := Lib.hid hM.swap
  clear hO HC hM
  have HF := Lib.hid HM.out
  clear HM
  go_wp2_with fail
  go_ret
  exact ⟨rfl, HF.out⟩
set_option maxHeartbeats 1000000 in
theorem rst3_zero (hr : RmOk c nd sp av le n) (hn : ws.length ≤ 1000000) (hl : lg.length < 1000000) (hi : av < ws.length) (he : ws.getD av 0 = a) (b0 : -9223372036854775808 ≤ a - n - e) (b1 : a - n - e ≤ 9223372036854775807) (b2 : -9223372036854775808 ≤ a - n) (b3 : a - n ≤ 9223372036854775807) (hz : (e == 0) = true)
    (h : Own w0 F0 (blk k (rmO c pp np cp pl nl cl nd n sp 3 l a e er an) :: memA T m ws lg :: L) w) :
    Calls Tryz.prog 77 #[.pointer (some ⟨k, 0, none⟩), .pointer (some ⟨m, 0, none⟩)] w fun en w' => en = .returned (.bool true) ∧
      Own w0 F0 (blk k (rmO c pp np cp pl nl cl nd n sp 9 l a e er an) :: memA T m (ws.set av (a - n - e)) (lg ++ [⟨3, av, a, a - n - e, true⟩]) :: L) w' := by
  have H1 := fun w => Lib.hid (rLease_q (pp := pp) (np := np) (cp := cp) (pl := pl) (nl := nl) (cl := cl) c hr.hs nd hr.v0 hr.v1 sp hr.s0 hr.s1 w)
  have H2 := fun w => Lib.hid (rAvail_q (pp := pp) (np := np) (cp := cp) (pl := pl) (nl := nl) (cl := cl) c hr.hs nd hr.v0 hr.v1 w)
  rw [hr.p1] at H1
  rw [hr.p0] at H2
  have HC := fun L w h => Lib.hid (rCas_yes (w0 := w0) (F0 := F0) (T := T) (m := m) (ws := ws) (l := lg) (w := w) (L := L) av a (a - n - e) hi hn hl he h)
  have hw1 : IntKind.i64.wrap (a - n) = a - n := IntWalk.i64_in _ (by omega)
  have hw2 : IntKind.i64.wrap (a - n - e) = a - n - e := IntWalk.i64_in _ (by omega)
  clear hl hn hi he
  obtain ⟨c0, c1, c2, c3, c4, c5, c6, c7, c8, c9, c10, c11, c12, c13, c14, c15, c16, c17, c18, cf⟩ := rmCells h
  have hO := h.drew
  clear h hr
  go_enter Tryz.func77, Tryz.ntmps77
  go_wp2_with fail
  go_region_held3 (fun w' => w'.cell? ⟨k, 0, none⟩ = some (.int .i64 c.th) ∧ w'.cell? ⟨k, 1, none⟩ = some (.int .i64 c.st) ∧ w'.cell? ⟨k, 2, none⟩ = some (.int .i64 c.ga) ∧ w'.cell? ⟨k, 3, none⟩ = some (.int .i64 c.le) ∧ w'.cell? ⟨k, 4, none⟩ = some (.int .i64 c.re) ∧ w'.cell? ⟨k, 5, none⟩ = some (.int .i64 c.ti) ∧ w'.cell? ⟨k, 6, none⟩ = some (.slice pp np cp) ∧ w'.cell? ⟨k, 7, none⟩ = some (.slice pl nl cl) ∧ w'.cell? ⟨k, 8, none⟩ = some (.int .i64 nd) ∧ w'.cell? ⟨k, 10, none⟩ = some (.int .i64 sp)) (go_keep) (first | (go_at_call 97; refine (H1 _).out.mono ?_; rintro e1 w1 ⟨rfl, hB⟩; have hO := Own.below (by with_reducible assumption) hB; obtain ⟨c0, c1, c2, c3, c4, c5, c6, c7, c8, c9, c10, c11, c12, c13, c14, c15, c16, c17, c18, cf⟩ := rmCells hO))
  clear hB H1
  have hO2 := hO.drew
  go_wp2_with fail
  go_region_held3 (fun w' => w'.cell? ⟨k, 0, none⟩ = some (.int .i64 c.th) ∧ w'.cell? ⟨k, 1, none⟩ = some (.int .i64 c.st) ∧ w'.cell? ⟨k, 2, none⟩ = some (.int .i64 c.ga) ∧ w'.cell? ⟨k, 3, none⟩ = some (.int .i64 c.le) ∧ w'.cell? ⟨k, 4, none⟩ = some (.int .i64 c.re) ∧ w'.cell? ⟨k, 5, none⟩ = some (.int .i64 c.ti) ∧ w'.cell? ⟨k, 6, none⟩ = some (.slice pp np cp) ∧ w'.cell? ⟨k, 7, none⟩ = some (.slice pl nl cl) ∧ w'.cell? ⟨k, 8, none⟩ = some (.int .i64 nd)) (go_keep) (first | (go_at_call 80; refine (H2 _).out.mono ?_; rintro e1 w2 ⟨rfl, hB⟩; have hO3 := Own.below (by with_reducible assumption) hB; obtain ⟨c0, c1, c2, c3, c4, c5, c6, c7, c8, c9, c10, c11, c12, c13, c14, c15, c16, c17, c18, cf⟩ := rmCells hO3))
  clear hB H2 hO hO2
  have HO := Lib.hid hO3
  clear hO3
  have hO := HO.out.swap.drew
  clear HO
  go_wp2_with fail
  go_region_held3 (fun w' => w'.cell? ⟨k, 13, none⟩ = some (.int .i64 a) ∧ w'.cell? ⟨k, 9, none⟩ = some (.int .i64 n) ∧ w'.cell? ⟨k, 14, none⟩ = some (.int .i64 e)) (go_keep) (first | (go_at_call 114; with_reducible refine Calls.mono (Hid.out (HC _ _ hO)) ?_; rintro e1 w5 ⟨rfl, hM⟩; obtain ⟨c0, c1, c2, c3, c4, c5, c6, c7, c8, c9, c10, c11, c12, c13, c14, c15, c16, c17, c18, cf⟩ := rmCells hM.swap))
  have HM := Lib.hid hM.swap
  clear hO HC hM
  have HF := Lib.hid (HM.out.set 11 (.int .i64 9))
  clear HM
  go_wp2_with fail
  go_ret
  exact ⟨rfl, HF.out⟩
set_option maxHeartbeats 1000000 in
theorem rst3_more (hr : RmOk c nd sp av le n) (hn : ws.length ≤ 1000000) (hl : lg.length < 1000000) (hi : av < ws.length) (he : ws.getD av 0 = a) (b0 : -9223372036854775808 ≤ a - n - e) (b1 : a - n - e ≤ 9223372036854775807) (b2 : -9223372036854775808 ≤ a - n) (b3 : a - n ≤ 9223372036854775807) (hz : (e == 0) = false)
    (h : Own w0 F0 (blk k (rmO c pp np cp pl nl cl nd n sp 3 l a e er an) :: memA T m ws lg :: L) w) :
    Calls Tryz.prog 77 #[.pointer (some ⟨k, 0, none⟩), .pointer (some ⟨m, 0, none⟩)] w fun en w' => en = .returned (.bool false) ∧
      Own w0 F0 (blk k (rmO c pp np cp pl nl cl nd n sp 4 l a e er an) :: memA T m (ws.set av (a - n - e)) (lg ++ [⟨3, av, a, a - n - e, true⟩]) :: L) w' := by
  have H1 := fun w => Lib.hid (rLease_q (pp := pp) (np := np) (cp := cp) (pl := pl) (nl := nl) (cl := cl) c hr.hs nd hr.v0 hr.v1 sp hr.s0 hr.s1 w)
  have H2 := fun w => Lib.hid (rAvail_q (pp := pp) (np := np) (cp := cp) (pl := pl) (nl := nl) (cl := cl) c hr.hs nd hr.v0 hr.v1 w)
  rw [hr.p1] at H1
  rw [hr.p0] at H2
  have HC := fun L w h => Lib.hid (rCas_yes (w0 := w0) (F0 := F0) (T := T) (m := m) (ws := ws) (l := lg) (w := w) (L := L) av a (a - n - e) hi hn hl he h)
  have hw1 : IntKind.i64.wrap (a - n) = a - n := IntWalk.i64_in _ (by omega)
  have hw2 : IntKind.i64.wrap (a - n - e) = a - n - e := IntWalk.i64_in _ (by omega)
  clear hl hn hi he
  obtain ⟨c0, c1, c2, c3, c4, c5, c6, c7, c8, c9, c10, c11, c12, c13, c14, c15, c16, c17, c18, cf⟩ := rmCells h
  have hO := h.drew
  clear h hr
  go_enter Tryz.func77, Tryz.ntmps77
  go_wp2_with fail
  go_region_held3 (fun w' => w'.cell? ⟨k, 0, none⟩ = some (.int .i64 c.th) ∧ w'.cell? ⟨k, 1, none⟩ = some (.int .i64 c.st) ∧ w'.cell? ⟨k, 2, none⟩ = some (.int .i64 c.ga) ∧ w'.cell? ⟨k, 3, none⟩ = some (.int .i64 c.le) ∧ w'.cell? ⟨k, 4, none⟩ = some (.int .i64 c.re) ∧ w'.cell? ⟨k, 5, none⟩ = some (.int .i64 c.ti) ∧ w'.cell? ⟨k, 6, none⟩ = some (.slice pp np cp) ∧ w'.cell? ⟨k, 7, none⟩ = some (.slice pl nl cl) ∧ w'.cell? ⟨k, 8, none⟩ = some (.int .i64 nd) ∧ w'.cell? ⟨k, 10, none⟩ = some (.int .i64 sp)) (go_keep) (first | (go_at_call 97; refine (H1 _).out.mono ?_; rintro e1 w1 ⟨rfl, hB⟩; have hO := Own.below (by with_reducible assumption) hB; obtain ⟨c0, c1, c2, c3, c4, c5, c6, c7, c8, c9, c10, c11, c12, c13, c14, c15, c16, c17, c18, cf⟩ := rmCells hO))
  clear hB H1
  have hO2 := hO.drew
  go_wp2_with fail
  go_region_held3 (fun w' => w'.cell? ⟨k, 0, none⟩ = some (.int .i64 c.th) ∧ w'.cell? ⟨k, 1, none⟩ = some (.int .i64 c.st) ∧ w'.cell? ⟨k, 2, none⟩ = some (.int .i64 c.ga) ∧ w'.cell? ⟨k, 3, none⟩ = some (.int .i64 c.le) ∧ w'.cell? ⟨k, 4, none⟩ = some (.int .i64 c.re) ∧ w'.cell? ⟨k, 5, none⟩ = some (.int .i64 c.ti) ∧ w'.cell? ⟨k, 6, none⟩ = some (.slice pp np cp) ∧ w'.cell? ⟨k, 7, none⟩ = some (.slice pl nl cl) ∧ w'.cell? ⟨k, 8, none⟩ = some (.int .i64 nd)) (go_keep) (first | (go_at_call 80; refine (H2 _).out.mono ?_; rintro e1 w2 ⟨rfl, hB⟩; have hO3 := Own.below (by with_reducible assumption) hB; obtain ⟨c0, c1, c2, c3, c4, c5, c6, c7, c8, c9, c10, c11, c12, c13, c14, c15, c16, c17, c18, cf⟩ := rmCells hO3))
  clear hB H2 hO hO2
  have HO := Lib.hid hO3
  clear hO3
  have hO := HO.out.swap.drew
  clear HO
  go_wp2_with fail
  go_region_held3 (fun w' => w'.cell? ⟨k, 13, none⟩ = some (.int .i64 a) ∧ w'.cell? ⟨k, 9, none⟩ = some (.int .i64 n) ∧ w'.cell? ⟨k, 14, none⟩ = some (.int .i64 e)) (go_keep) (first | (go_at_call 114; with_reducible refine Calls.mono (Hid.out (HC _ _ hO)) ?_; rintro e1 w5 ⟨rfl, hM⟩; obtain ⟨c0, c1, c2, c3, c4, c5, c6, c7, c8, c9, c10, c11, c12, c13, c14, c15, c16, c17, c18, cf⟩ := rmCells hM.swap))
  have HM := Lib.hid hM.swap
  clear hO HC hM
  have HF := Lib.hid (HM.out.set 11 (.int .i64 4))
  clear HM
  go_wp2_with fail
  go_ret
  exact ⟨rfl, HF.out⟩
set_option maxHeartbeats 1000000 in
theorem rst3_no (hr : RmOk c nd sp av le n) (hn : ws.length ≤ 1000000) (hl : lg.length < 1000000) (hi : av < ws.length) (he : ws.getD av 0 ≠ a) (b0 : -9223372036854775808 ≤ a - n - e) (b1 : a - n - e ≤ 9223372036854775807) (b2 : -9223372036854775808 ≤ a - n) (b3 : a - n ≤ 9223372036854775807)
    (h : Own w0 F0 (blk k (rmO c pp np cp pl nl cl nd n sp 3 l a e er an) :: memA T m ws lg :: L) w) :
    Calls Tryz.prog 77 #[.pointer (some ⟨k, 0, none⟩), .pointer (some ⟨m, 0, none⟩)] w fun en w' => en = .returned (.bool false) ∧
      Own w0 F0 (blk k (rmO c pp np cp pl nl cl nd n sp 2 l a e er an) :: memA T m ws (lg ++ [⟨3, av, a, a - n - e, false⟩]) :: L) w' := by
  have H1 := fun w => Lib.hid (rLease_q (pp := pp) (np := np) (cp := cp) (pl := pl) (nl := nl) (cl := cl) c hr.hs nd hr.v0 hr.v1 sp hr.s0 hr.s1 w)
  have H2 := fun w => Lib.hid (rAvail_q (pp := pp) (np := np) (cp := cp) (pl := pl) (nl := nl) (cl := cl) c hr.hs nd hr.v0 hr.v1 w)
  rw [hr.p1] at H1
  rw [hr.p0] at H2
  have HC := fun L w h => Lib.hid (rCas_no (w0 := w0) (F0 := F0) (T := T) (m := m) (ws := ws) (l := lg) (w := w) (L := L) av a (a - n - e) hi hl he h)
  have hw1 : IntKind.i64.wrap (a - n) = a - n := IntWalk.i64_in _ (by omega)
  have hw2 : IntKind.i64.wrap (a - n - e) = a - n - e := IntWalk.i64_in _ (by omega)
  clear hl hn hi he
  obtain ⟨c0, c1, c2, c3, c4, c5, c6, c7, c8, c9, c10, c11, c12, c13, c14, c15, c16, c17, c18, cf⟩ := rmCells h
  have hO := h.drew
  clear h hr
  go_enter Tryz.func77, Tryz.ntmps77
  go_wp2_with fail
  go_region_held3 (fun w' => w'.cell? ⟨k, 0, none⟩ = some (.int .i64 c.th) ∧ w'.cell? ⟨k, 1, none⟩ = some (.int .i64 c.st) ∧ w'.cell? ⟨k, 2, none⟩ = some (.int .i64 c.ga) ∧ w'.cell? ⟨k, 3, none⟩ = some (.int .i64 c.le) ∧ w'.cell? ⟨k, 4, none⟩ = some (.int .i64 c.re) ∧ w'.cell? ⟨k, 5, none⟩ = some (.int .i64 c.ti) ∧ w'.cell? ⟨k, 6, none⟩ = some (.slice pp np cp) ∧ w'.cell? ⟨k, 7, none⟩ = some (.slice pl nl cl) ∧ w'.cell? ⟨k, 8, none⟩ = some (.int .i64 nd) ∧ w'.cell? ⟨k, 10, none⟩ = some (.int .i64 sp)) (go_keep) (first | (go_at_call 97; refine (H1 _).out.mono ?_; rintro e1 w1 ⟨rfl, hB⟩; have hO := Own.below (by with_reducible assumption) hB; obtain ⟨c0, c1, c2, c3, c4, c5, c6, c7, c8, c9, c10, c11, c12, c13, c14, c15, c16, c17, c18, cf⟩ := rmCells hO))
  clear hB H1
  have hO2 := hO.drew
  go_wp2_with fail
  go_region_held3 (fun w' => w'.cell? ⟨k, 0, none⟩ = some (.int .i64 c.th) ∧ w'.cell? ⟨k, 1, none⟩ = some (.int .i64 c.st) ∧ w'.cell? ⟨k, 2, none⟩ = some (.int .i64 c.ga) ∧ w'.cell? ⟨k, 3, none⟩ = some (.int .i64 c.le) ∧ w'.cell? ⟨k, 4, none⟩ = some (.int .i64 c.re) ∧ w'.cell? ⟨k, 5, none⟩ = some (.int .i64 c.ti) ∧ w'.cell? ⟨k, 6, none⟩ = some (.slice pp np cp) ∧ w'.cell? ⟨k, 7, none⟩ = some (.slice pl nl cl) ∧ w'.cell? ⟨k, 8, none⟩ = some (.int .i64 nd)) (go_keep) (first | (go_at_call 80; refine (H2 _).out.mono ?_; rintro e1 w2 ⟨rfl, hB⟩; have hO3 := Own.below (by with_reducible assumption) hB; obtain ⟨c0, c1, c2, c3, c4, c5, c6, c7, c8, c9, c10, c11, c12, c13, c14, c15, c16, c17, c18, cf⟩ := rmCells hO3))
  clear hB H2 hO hO2
  have HO := Lib.hid hO3
  clear hO3
  have hO := HO.out.swap.drew
  clear HO
  go_wp2_with fail
  go_region_held3 (fun w' => w'.cell? ⟨k, 13, none⟩ = some (.int .i64 a) ∧ w'.cell? ⟨k, 9, none⟩ = some (.int .i64 n) ∧ w'.cell? ⟨k, 14, none⟩ = some (.int .i64 e)) (go_keep) (first | (go_at_call 114; with_reducible refine Calls.mono (Hid.out (HC _ _ hO)) ?_; rintro e1 w5 ⟨rfl, hM⟩; obtain ⟨c0, c1, c2, c3, c4, c5, c6, c7, c8, c9, c10, c11, c12, c13, c14, c15, c16, c17, c18, cf⟩ := rmCells hM.swap))
  have HM := Lib.hid hM.swap
  clear hO HC hM
  have HF := Lib.hid (HM.out.set 11 (.int .i64 2))
  clear HM
  go_wp2_with fail
  go_ret
  exact ⟨rfl, HF.out⟩
set_option maxHeartbeats 1000000 in
theorem rst6_any (hr : RmOk c nd sp av le n) (hn : ws.length ≤ 1000000) (hl : lg.length < 1000000) (hi : av < ws.length)
    (h : Own w0 F0 (blk k (rmO c pp np cp pl nl cl nd n sp 6 l a e er an) :: memA T m ws lg :: L) w) :
    Calls Tryz.prog 77 #[.pointer (some ⟨k, 0, none⟩), .pointer (some ⟨m, 0, none⟩)] w fun en w' => en = .returned (.bool true) ∧
      Own w0 F0 (blk k (rmO c pp np cp pl nl cl nd n sp 9 l a e er an) :: memA T m (ws.set av (wrap64 (ws.getD av 0 + e))) (lg ++ [⟨2, av, e, wrap64 (ws.getD av 0 + e), false⟩]) :: L) w' := by
  have H1 := fun w => Lib.hid (rLease_q (pp := pp) (np := np) (cp := cp) (pl := pl) (nl := nl) (cl := cl) c hr.hs nd hr.v0 hr.v1 sp hr.s0 hr.s1 w)
  have H2 := fun w => Lib.hid (rAvail_q (pp := pp) (np := np) (cp := cp) (pl := pl) (nl := nl) (cl := cl) c hr.hs nd hr.v0 hr.v1 w)
  rw [hr.p1] at H1
  rw [hr.p0] at H2
  have HC := fun L w h => Lib.hid (rAdd_any (w0 := w0) (F0 := F0) (T := T) (m := m) (ws := ws) (l := lg) (w := w) (L := L) av e hi hn hl h)
  clear hl hn hi
  obtain ⟨c0, c1, c2, c3, c4, c5, c6, c7, c8, c9, c10, c11, c12, c13, c14, c15, c16, c17, c18, cf⟩ := rmCells h
  have hO := h.drew
  clear h hr
  go_enter Tryz.func77, Tryz.ntmps77
  go_wp2_with fail
  go_region_held3 (fun w' => w'.cell? ⟨k, 0, none⟩ = some (.int .i64 c.th) ∧ w'.cell? ⟨k, 1, none⟩ = some (.int .i64 c.st) ∧ w'.cell? ⟨k, 2, none⟩ = some (.int .i64 c.ga) ∧ w'.cell? ⟨k, 3, none⟩ = some (.int .i64 c.le) ∧ w'.cell? ⟨k, 4, none⟩ = some (.int .i64 c.re) ∧ w'.cell? ⟨k, 5, none⟩ = some (.int .i64 c.ti) ∧ w'.cell? ⟨k, 6, none⟩ = some (.slice pp np cp) ∧ w'.cell? ⟨k, 7, none⟩ = some (.slice pl nl cl) ∧ w'.cell? ⟨k, 8, none⟩ = some (.int .i64 nd) ∧ w'.cell? ⟨k, 10, none⟩ = some (.int .i64 sp)) (go_keep) (first | (go_at_call 97; refine (H1 _).out.mono ?_; rintro e1 w1 ⟨rfl, hB⟩; have hO := Own.below (by with_reducible assumption) hB; obtain ⟨c0, c1, c2, c3, c4, c5, c6, c7, c8, c9, c10, c11, c12, c13, c14, c15, c16, c17, c18, cf⟩ := rmCells hO))
  clear hB H1
  have hO2 := hO.drew
  go_wp2_with fail
  go_region_held3 (fun w' => w'.cell? ⟨k, 0, none⟩ = some (.int .i64 c.th) ∧ w'.cell? ⟨k, 1, none⟩ = some (.int .i64 c.st) ∧ w'.cell? ⟨k, 2, none⟩ = some (.int .i64 c.ga) ∧ w'.cell? ⟨k, 3, none⟩ = some (.int .i64 c.le) ∧ w'.cell? ⟨k, 4, none⟩ = some (.int .i64 c.re) ∧ w'.cell? ⟨k, 5, none⟩ = some (.int .i64 c.ti) ∧ w'.cell? ⟨k, 6, none⟩ = some (.slice pp np cp) ∧ w'.cell? ⟨k, 7, none⟩ = some (.slice pl nl cl) ∧ w'.cell? ⟨k, 8, none⟩ = some (.int .i64 nd)) (go_keep) (first | (go_at_call 80; refine (H2 _).out.mono ?_; rintro e1 w2 ⟨rfl, hB⟩; have hO3 := Own.below (by with_reducible assumption) hB; obtain ⟨c0, c1, c2, c3, c4, c5, c6, c7, c8, c9, c10, c11, c12, c13, c14, c15, c16, c17, c18, cf⟩ := rmCells hO3))
  clear hB H2 hO hO2
  have HO := Lib.hid hO3
  clear hO3
  have H3 := HC _ _ HO.out.swap
  clear HC HO
  go_wp2_with fail
  refine H3.out.mono ?_
  rintro e1 w3 ⟨rfl, hM⟩
  clear c0 c1 c2 c3 c4 c5 c6 c7 c8 c9 c10 c11 c12 c13 c14 c15 c16 c17 c18 cf
  obtain ⟨c0, c1, c2, c3, c4, c5, c6, c7, c8, c9, c10, c11, c12, c13, c14, c15, c16, c17, c18, cf⟩ := rmCells hM.swap
  have HM := Lib.hid hM.swap
  clear H3 hM
  have HF := Lib.hid (HM.out.set 11 (.int .i64 9))
  clear HM
  go_wp2_with fail
  go_ret
  exact ⟨rfl, HF.out⟩
set_option maxHeartbeats 1000000 in
theorem rst9_any (hr : RmOk c nd sp av le n) (hn : ws.length ≤ 1000000) (hl : lg.length < 1000000) 
    (h : Own w0 F0 (blk k (rmO c pp np cp pl nl cl nd n sp 9 l a e er an) :: memA T m ws lg :: L) w) :
    Calls Tryz.prog 77 #[.pointer (some ⟨k, 0, none⟩), .pointer (some ⟨m, 0, none⟩)] w fun en w' => en = .returned (.bool true) ∧
      Own w0 F0 (blk k (rmO c pp np cp pl nl cl nd n sp 9 l a e er an) :: memA T m ws lg :: L) w' := by
  have H1 := fun w => Lib.hid (rLease_q (pp := pp) (np := np) (cp := cp) (pl := pl) (nl := nl) (cl := cl) c hr.hs nd hr.v0 hr.v1 sp hr.s0 hr.s1 w)
  have H2 := fun w => Lib.hid (rAvail_q (pp := pp) (np := np) (cp := cp) (pl := pl) (nl := nl) (cl := cl) c hr.hs nd hr.v0 hr.v1 w)
  rw [hr.p1] at H1
  rw [hr.p0] at H2
  obtain ⟨c0, c1, c2, c3, c4, c5, c6, c7, c8, c9, c10, c11, c12, c13, c14, c15, c16, c17, c18, cf⟩ := rmCells h
  have hO := h.drew
  clear h hr
  go_enter Tryz.func77, Tryz.ntmps77
  go_wp2_with fail
  go_region_held3 (fun w' => w'.cell? ⟨k, 0, none⟩ = some (.int .i64 c.th) ∧ w'.cell? ⟨k, 1, none⟩ = some (.int .i64 c.st) ∧ w'.cell? ⟨k, 2, none⟩ = some (.int .i64 c.ga) ∧ w'.cell? ⟨k, 3, none⟩ = some (.int .i64 c.le) ∧ w'.cell? ⟨k, 4, none⟩ = some (.int .i64 c.re) ∧ w'.cell? ⟨k, 5, none⟩ = some (.int .i64 c.ti) ∧ w'.cell? ⟨k, 6, none⟩ = some (.slice pp np cp) ∧ w'.cell? ⟨k, 7, none⟩ = some (.slice pl nl cl) ∧ w'.cell? ⟨k, 8, none⟩ = some (.int .i64 nd) ∧ w'.cell? ⟨k, 10, none⟩ = some (.int .i64 sp)) (go_keep) (first | (go_at_call 97; refine (H1 _).out.mono ?_; rintro e1 w1 ⟨rfl, hB⟩; have hO := Own.below (by with_reducible assumption) hB; obtain ⟨c0, c1, c2, c3, c4, c5, c6, c7, c8, c9, c10, c11, c12, c13, c14, c15, c16, c17, c18, cf⟩ := rmCells hO))
  clear hB H1
  have hO2 := hO.drew
  go_wp2_with fail
  go_region_held3 (fun w' => w'.cell? ⟨k, 0, none⟩ = some (.int .i64 c.th) ∧ w'.cell? ⟨k, 1, none⟩ = some (.int .i64 c.st) ∧ w'.cell? ⟨k, 2, none⟩ = some (.int .i64 c.ga) ∧ w'.cell? ⟨k, 3, none⟩ = some (.int .i64 c.le) ∧ w'.cell? ⟨k, 4, none⟩ = some (.int .i64 c.re) ∧ w'.cell? ⟨k, 5, none⟩ = some (.int .i64 c.ti) ∧ w'.cell? ⟨k, 6, none⟩ = some (.slice pp np cp) ∧ w'.cell? ⟨k, 7, none⟩ = some (.slice pl nl cl) ∧ w'.cell? ⟨k, 8, none⟩ = some (.int .i64 nd)) (go_keep) (first | (go_at_call 80; refine (H2 _).out.mono ?_; rintro e1 w2 ⟨rfl, hB⟩; have hO3 := Own.below (by with_reducible assumption) hB; obtain ⟨c0, c1, c2, c3, c4, c5, c6, c7, c8, c9, c10, c11, c12, c13, c14, c15, c16, c17, c18, cf⟩ := rmCells hO3))
  clear hB H2 hO hO2
  have HO := Lib.hid hO3
  clear hO3
  go_wp2_with fail
  go_ret
  exact ⟨rfl, HO.out⟩
end
end Go.Proofs.YtlpdafldabfiaaaGreat
end
