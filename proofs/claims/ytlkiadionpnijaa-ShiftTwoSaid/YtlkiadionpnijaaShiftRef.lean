/- The document's machine of layer 9: Step, by its own code. Written by tools/gen_shiftref.py. -/
import Derived.Test.YtlkiadionpnijaaPlanOf
import Derived.Test.YtlkiadionpnijaaMemRef2
import Derived.Test.YtlkiadionpnijaaShiftMath
import Derived.Deep.RegionHeld3
import Derived.Deep.QuietTactic
import Derived.BigQuiet
namespace Go.Proofs.Ytlkiadionpnijaa
open Go.ChangeShapes Go.WideShapes Go.ChangeAt Go.RowKit Go.Shelf
set_option linter.unusedVariables false
set_option linter.unusedSimpArgs false
set_option maxRecDepth 100000
variable {w0 w w' : World} {F0 : Nat → Prop} {L : List Asn} {T : TypeId} {m : Nat} {ws : List Int} {lg : List Acc}
def rsO (c : Cf) (pp : Option Addr) (np cp : Nat) (pl : Option Addr) (nl cl : Nat) (kd nd n at_ saw er an : Int) : Obj := .cells #[.int .i64 kd, .int .i64 c.th, .int .i64 c.st, .int .i64 c.ga, .int .i64 c.le, .int .i64 c.re, .int .i64 c.ti, .slice pp np cp, .slice pl nl cl, .int .i64 nd, .int .i64 n, .int .i64 at_, .int .i64 saw, .int .i64 er, .int .i64 0, .bool false, .int .i64 an] 89 (0, 0)
theorem rsCells {k : Nat} {c : Cf} {pp pl : Option Addr} {np cp nl cl : Nat} {kd nd n at_ saw er an : Int} (h : Own w0 F0 (blk k (rsO c pp np cp pl nl cl kd nd n at_ saw er an) :: L) w) :
    w.cell? ⟨k, 0, none⟩ = some (.int .i64 kd) ∧ w.cell? ⟨k, 1, none⟩ = some (.int .i64 c.th) ∧ w.cell? ⟨k, 2, none⟩ = some (.int .i64 c.st) ∧ w.cell? ⟨k, 3, none⟩ = some (.int .i64 c.ga) ∧ w.cell? ⟨k, 4, none⟩ = some (.int .i64 c.le) ∧ w.cell? ⟨k, 5, none⟩ = some (.int .i64 c.re) ∧ w.cell? ⟨k, 6, none⟩ = some (.int .i64 c.ti) ∧ w.cell? ⟨k, 7, none⟩ = some (.slice pp np cp) ∧ w.cell? ⟨k, 8, none⟩ = some (.slice pl nl cl) ∧ w.cell? ⟨k, 9, none⟩ = some (.int .i64 nd) ∧ w.cell? ⟨k, 10, none⟩ = some (.int .i64 n) ∧ w.cell? ⟨k, 11, none⟩ = some (.int .i64 at_) ∧ w.cell? ⟨k, 12, none⟩ = some (.int .i64 saw) ∧ w.cell? ⟨k, 13, none⟩ = some (.int .i64 er) ∧ w.cell? ⟨k, 14, none⟩ = some (.int .i64 0) ∧ w.cell? ⟨k, 15, none⟩ = some (.bool false) ∧ w.cell? ⟨k, 16, none⟩ = some (.int .i64 an) ∧ ∀ j, w.frozen? ⟨k, j, none⟩ = false :=
  ⟨h.cell (i := 0) rfl, h.cell (i := 1) rfl, h.cell (i := 2) rfl, h.cell (i := 3) rfl, h.cell (i := 4) rfl, h.cell (i := 5) rfl, h.cell (i := 6) rfl, h.cell (i := 7) rfl, h.cell (i := 8) rfl, h.cell (i := 9) rfl, h.cell (i := 10) rfl, h.cell (i := 11) rfl, h.cell (i := 12) rfl, h.cell (i := 13) rfl, h.cell (i := 14) rfl, h.cell (i := 15) rfl, h.cell (i := 16) rfl, fun j => h.unfrozen⟩
structure RsOk (c : Cf) (nd : Int) (li av : Nat) : Prop where
  hs : Sm c
  v0 : 0 ≤ nd
  v1 : nd ≤ 12
  p0 : lim c nd = (li : Int)
  p1 : lim c nd + 1 = (av : Int)
theorem rLoad_z (i : Nat) (y : Int) (hy : ws.getD i 0 = y) (hi : i < ws.length) (hl : lg.length < 1000000) (h : Own w0 F0 (memA T m ws lg :: L) w) :
    Calls Try.prog 72 #[.pointer (some ⟨m, 0, none⟩), .int .i64 i] w fun en w' =>
      en = .returned (.int .i64 y) ∧ Own w0 F0 (memA T m ws (lg ++ [⟨1, i, y, 0, false⟩]) :: L) w' := by
  subst hy; exact rLoad_any i hi hl h
section
variable {k : Nat} {c : Cf} {pp pl : Option Addr} {np cp nl cl : Nat} {kd nd n saw er an bb : Int} {li av : Nat}
set_option maxHeartbeats 1000000 in
theorem rs20_no (hr : RsOk c nd li av) (hn : ws.length ≤ 1000000) (hl : lg.length < 1000000) (y : Int) (hi : li < ws.length) (hy : ws.getD li 0 = y) (n0 : 1 ≤ n) (n1 : n ≤ 1048576) (y0 : -1000000000000000000 ≤ y) (y1 : y ≤ 1000000000000000000) (hc : 1099511627776 < y + n)
    (h : Own w0 F0 (blk k (rsO c pp np cp pl nl cl 2 nd n 0 saw er an) :: memA T m ws lg :: L) w) :
    Calls Try.prog 47 #[.pointer (some ⟨k, 0, none⟩), .pointer (some ⟨m, 0, none⟩)] w fun en w' => en = .returned (.bool true) ∧
      Own w0 F0 (blk k (rsO c pp np cp pl nl cl 2 nd n 9 y 6 0) :: memA T m ws (lg ++ [⟨1, li, y, 0, false⟩]) :: L) w' := by
  have H1 := fun w => Lib.hid (rLimit_q (pp := pp) (np := np) (cp := cp) (pl := pl) (nl := nl) (cl := cl) c hr.hs nd hr.v0 hr.v1 w)
  have H2 := fun w => Lib.hid (rAvail_q (pp := pp) (np := np) (cp := cp) (pl := pl) (nl := nl) (cl := cl) c hr.hs nd hr.v0 hr.v1 w)
  rw [hr.p0] at H1
  rw [hr.p1] at H2
  have HLd := fun L w h => Lib.hid (rLoad_z (w0 := w0) (F0 := F0) (L := L) (T := T) (m := m) (ws := ws) (lg := lg) (w := w) li y hy hi hl h)
  have hw1 : IntKind.i64.wrap (y + n) = y + n := IntWalk.i64_in _ (by omega)
  have hd1 : decide (1099511627776 < y + n) = true := by simp; omega
  clear hl hn hi hy
  obtain ⟨c0, c1, c2, c3, c4, c5, c6, c7, c8, c9, c10, c11, c12, c13, c14, c15, c16, cf⟩ := rsCells h
  have hO := h.drew
  clear h hr
  go_enter Try.func47, Try.ntmps47
  go_wp2_with fail
  go_region_held3 (fun w' => w'.cell? ⟨k, 1, none⟩ = some (.int .i64 c.th) ∧ w'.cell? ⟨k, 2, none⟩ = some (.int .i64 c.st) ∧ w'.cell? ⟨k, 3, none⟩ = some (.int .i64 c.ga) ∧ w'.cell? ⟨k, 4, none⟩ = some (.int .i64 c.le) ∧ w'.cell? ⟨k, 5, none⟩ = some (.int .i64 c.re) ∧ w'.cell? ⟨k, 6, none⟩ = some (.int .i64 c.ti) ∧ w'.cell? ⟨k, 7, none⟩ = some (.slice pp np cp) ∧ w'.cell? ⟨k, 8, none⟩ = some (.slice pl nl cl) ∧ w'.cell? ⟨k, 9, none⟩ = some (.int .i64 nd)) (go_keep) (first | (go_at_call 30; refine (H1 _).out.mono ?_; rintro e1 w1 ⟨rfl, hB⟩; have hO1 := Own.below (by with_reducible assumption) hB; obtain ⟨c0, c1, c2, c3, c4, c5, c6, c7, c8, c9, c10, c11, c12, c13, c14, c15, c16, cf⟩ := rsCells hO1))
  clear hB
  have hO2 := hO1.drew
  go_wp2_with fail
  go_region_held3 (fun w' => w'.cell? ⟨k, 1, none⟩ = some (.int .i64 c.th) ∧ w'.cell? ⟨k, 2, none⟩ = some (.int .i64 c.st) ∧ w'.cell? ⟨k, 3, none⟩ = some (.int .i64 c.ga) ∧ w'.cell? ⟨k, 4, none⟩ = some (.int .i64 c.le) ∧ w'.cell? ⟨k, 5, none⟩ = some (.int .i64 c.re) ∧ w'.cell? ⟨k, 6, none⟩ = some (.int .i64 c.ti) ∧ w'.cell? ⟨k, 7, none⟩ = some (.slice pp np cp) ∧ w'.cell? ⟨k, 8, none⟩ = some (.slice pl nl cl) ∧ w'.cell? ⟨k, 9, none⟩ = some (.int .i64 nd)) (go_keep) (first | (go_at_call 31; refine (H2 _).out.mono ?_; rintro e1 w2 ⟨rfl, hB⟩; have hO3 := Own.below (by with_reducible assumption) hB; obtain ⟨c0, c1, c2, c3, c4, c5, c6, c7, c8, c9, c10, c11, c12, c13, c14, c15, c16, cf⟩ := rsCells hO3))
  clear hB hO hO1 hO2
  have HO := Lib.hid hO3
  clear hO3 H1 H2
  have H3 := HLd _ _ HO.out.swap
  clear HLd HO
  go_wp2_with fail
  refine H3.out.mono ?_
  rintro e1 w5 ⟨rfl, hM⟩
  clear c0 c1 c2 c3 c4 c5 c6 c7 c8 c9 c10 c11 c12 c13 c14 c15 c16 cf
  obtain ⟨c0, c1, c2, c3, c4, c5, c6, c7, c8, c9, c10, c11, c12, c13, c14, c15, c16, cf⟩ := rsCells hM.swap
  have HM := Lib.hid hM.swap
  clear H3 hM
  have h4 := Lib.hid ((HM.out.set 12 (.int .i64 y)).set 11 (.int .i64 1))
  clear HM
  go_wp2_with fail
  generalize World.setCell _ _ _ = w6 at h4 ⊢
  have h4 : Own w0 F0 (blk k (rsO c pp np cp pl nl cl 2 nd n 1 y er an) :: memA T m ws (lg ++ [⟨1, li, y, 0, false⟩]) :: L) w6 := h4.out
  clear c0 c1 c2 c3 c4 c5 c6 c7 c8 c9 c10 c11 c12 c13 c14 c15 c16 cf
  obtain ⟨c0, c1, c2, c3, c4, c5, c6, c7, c8, c9, c10, c11, c12, c13, c14, c15, c16, cf⟩ := rsCells h4
  have h4 := Lib.hid h4
  have HQ := Lib.hid (fun q => h4.out.drewN q)
  go_wp2_with fail
  go_quiet (fail)
  have h4' := Lib.hid (HQ.out nq)
  clear c0 c1 c2 c3 c4 c5 c6 c7 c8 c9 c10 c11 c12 c13 c14 c15 c16 cf
  have h5 := h4'.out
  clear HQ h4
  generalize World.drewN w6 nq = w7 at *
  obtain ⟨c0, c1, c2, c3, c4, c5, c6, c7, c8, c9, c10, c11, c12, c13, c14, c15, c16, cf⟩ := rsCells h5
  clear h5
  have h6 := Lib.hid (((((h4'.out.set 13 (.int .i64 6)).set 14 (.int .i64 0)).set 15 (.bool false)).set 16 (.int .i64 0)).set 11 (.int .i64 9))
  clear h4'
  go_wp2_with fail
  generalize World.setCell _ _ _ = w8 at h6 ⊢
  have h6 : Own w0 F0 (blk k (rsO c pp np cp pl nl cl 2 nd n 9 y 6 0) :: memA T m ws (lg ++ [⟨1, li, y, 0, false⟩]) :: L) w8 := h6.out
  clear c0 c1 c2 c3 c4 c5 c6 c7 c8 c9 c10 c11 c12 c13 c14 c15 c16 cf
  obtain ⟨c0, c1, c2, c3, c4, c5, c6, c7, c8, c9, c10, c11, c12, c13, c14, c15, c16, cf⟩ := rsCells h6
  have h6 := Lib.hid h6
  have HQ := Lib.hid (fun q => h6.out.drewN q)
  go_wp2_with fail
  go_quiet (fail)
  have h6' := Lib.hid (HQ.out nq)
  clear c0 c1 c2 c3 c4 c5 c6 c7 c8 c9 c10 c11 c12 c13 c14 c15 c16 cf
  have h5 := h6'.out
  clear HQ h6
  generalize World.drewN w8 nq = w9 at *
  obtain ⟨c0, c1, c2, c3, c4, c5, c6, c7, c8, c9, c10, c11, c12, c13, c14, c15, c16, cf⟩ := rsCells h5
  clear h5
  have HF := Lib.hid h6'.out
  clear h6'
  go_wp2_with fail
  go_ret
  exact ⟨rfl, HF.out⟩
set_option maxHeartbeats 1000000 in
theorem rs20_yes (hr : RsOk c nd li av) (hn : ws.length ≤ 1000000) (hl : lg.length < 1000000) (y : Int) (hi : li < ws.length) (hy : ws.getD li 0 = y) (n0 : 1 ≤ n) (n1 : n ≤ 1048576) (y0 : -1000000000000000000 ≤ y) (y1 : y ≤ 1000000000000000000) (hc : y + n ≤ 1099511627776)
    (h : Own w0 F0 (blk k (rsO c pp np cp pl nl cl 2 nd n 0 saw er an) :: memA T m ws lg :: L) w) :
    Calls Try.prog 47 #[.pointer (some ⟨k, 0, none⟩), .pointer (some ⟨m, 0, none⟩)] w fun en w' => en = .returned (.bool false) ∧
      Own w0 F0 (blk k (rsO c pp np cp pl nl cl 2 nd n 1 y er an) :: memA T m ws (lg ++ [⟨1, li, y, 0, false⟩]) :: L) w' := by
  have H1 := fun w => Lib.hid (rLimit_q (pp := pp) (np := np) (cp := cp) (pl := pl) (nl := nl) (cl := cl) c hr.hs nd hr.v0 hr.v1 w)
  have H2 := fun w => Lib.hid (rAvail_q (pp := pp) (np := np) (cp := cp) (pl := pl) (nl := nl) (cl := cl) c hr.hs nd hr.v0 hr.v1 w)
  rw [hr.p0] at H1
  rw [hr.p1] at H2
  have HLd := fun L w h => Lib.hid (rLoad_z (w0 := w0) (F0 := F0) (L := L) (T := T) (m := m) (ws := ws) (lg := lg) (w := w) li y hy hi hl h)
  have hw1 : IntKind.i64.wrap (y + n) = y + n := IntWalk.i64_in _ (by omega)
  have hd1 : decide (1099511627776 < y + n) = false := by simp; omega
  clear hl hn hi hy
  obtain ⟨c0, c1, c2, c3, c4, c5, c6, c7, c8, c9, c10, c11, c12, c13, c14, c15, c16, cf⟩ := rsCells h
  have hO := h.drew
  clear h hr
  go_enter Try.func47, Try.ntmps47
  go_wp2_with fail
  go_region_held3 (fun w' => w'.cell? ⟨k, 1, none⟩ = some (.int .i64 c.th) ∧ w'.cell? ⟨k, 2, none⟩ = some (.int .i64 c.st) ∧ w'.cell? ⟨k, 3, none⟩ = some (.int .i64 c.ga) ∧ w'.cell? ⟨k, 4, none⟩ = some (.int .i64 c.le) ∧ w'.cell? ⟨k, 5, none⟩ = some (.int .i64 c.re) ∧ w'.cell? ⟨k, 6, none⟩ = some (.int .i64 c.ti) ∧ w'.cell? ⟨k, 7, none⟩ = some (.slice pp np cp) ∧ w'.cell? ⟨k, 8, none⟩ = some (.slice pl nl cl) ∧ w'.cell? ⟨k, 9, none⟩ = some (.int .i64 nd)) (go_keep) (first | (go_at_call 30; refine (H1 _).out.mono ?_; rintro e1 w1 ⟨rfl, hB⟩; have hO1 := Own.below (by with_reducible assumption) hB; obtain ⟨c0, c1, c2, c3, c4, c5, c6, c7, c8, c9, c10, c11, c12, c13, c14, c15, c16, cf⟩ := rsCells hO1))
  clear hB
  have hO2 := hO1.drew
  go_wp2_with fail
  go_region_held3 (fun w' => w'.cell? ⟨k, 1, none⟩ = some (.int .i64 c.th) ∧ w'.cell? ⟨k, 2, none⟩ = some (.int .i64 c.st) ∧ w'.cell? ⟨k, 3, none⟩ = some (.int .i64 c.ga) ∧ w'.cell? ⟨k, 4, none⟩ = some (.int .i64 c.le) ∧ w'.cell? ⟨k, 5, none⟩ = some (.int .i64 c.re) ∧ w'.cell? ⟨k, 6, none⟩ = some (.int .i64 c.ti) ∧ w'.cell? ⟨k, 7, none⟩ = some (.slice pp np cp) ∧ w'.cell? ⟨k, 8, none⟩ = some (.slice pl nl cl) ∧ w'.cell? ⟨k, 9, none⟩ = some (.int .i64 nd)) (go_keep) (first | (go_at_call 31; refine (H2 _).out.mono ?_; rintro e1 w2 ⟨rfl, hB⟩; have hO3 := Own.below (by with_reducible assumption) hB; obtain ⟨c0, c1, c2, c3, c4, c5, c6, c7, c8, c9, c10, c11, c12, c13, c14, c15, c16, cf⟩ := rsCells hO3))
  clear hB hO hO1 hO2
  have HO := Lib.hid hO3
  clear hO3 H1 H2
  have H3 := HLd _ _ HO.out.swap
  clear HLd HO
  go_wp2_with fail
  refine H3.out.mono ?_
  rintro e1 w5 ⟨rfl, hM⟩
  clear c0 c1 c2 c3 c4 c5 c6 c7 c8 c9 c10 c11 c12 c13 c14 c15 c16 cf
  obtain ⟨c0, c1, c2, c3, c4, c5, c6, c7, c8, c9, c10, c11, c12, c13, c14, c15, c16, cf⟩ := rsCells hM.swap
  have HM := Lib.hid hM.swap
  clear H3 hM
  have h4 := Lib.hid ((HM.out.set 12 (.int .i64 y)).set 11 (.int .i64 1))
  clear HM
  go_wp2_with fail
  generalize World.setCell _ _ _ = w6 at h4 ⊢
  have h4 : Own w0 F0 (blk k (rsO c pp np cp pl nl cl 2 nd n 1 y er an) :: memA T m ws (lg ++ [⟨1, li, y, 0, false⟩]) :: L) w6 := h4.out
  clear c0 c1 c2 c3 c4 c5 c6 c7 c8 c9 c10 c11 c12 c13 c14 c15 c16 cf
  obtain ⟨c0, c1, c2, c3, c4, c5, c6, c7, c8, c9, c10, c11, c12, c13, c14, c15, c16, cf⟩ := rsCells h4
  have h4 := Lib.hid h4
  have HQ := Lib.hid (fun q => h4.out.drewN q)
  go_wp2_with fail
  go_quiet (fail)
  have h4' := Lib.hid (HQ.out nq)
  clear c0 c1 c2 c3 c4 c5 c6 c7 c8 c9 c10 c11 c12 c13 c14 c15 c16 cf
  have h5 := h4'.out
  clear HQ h4
  generalize World.drewN w6 nq = w7 at *
  obtain ⟨c0, c1, c2, c3, c4, c5, c6, c7, c8, c9, c10, c11, c12, c13, c14, c15, c16, cf⟩ := rsCells h5
  clear h5
  have h6 := Lib.hid h4'.out
  clear h4'
  have HQ := Lib.hid (fun q => h6.out.drewN q)
  go_wp2_with fail
  go_quiet (fail)
  have h6' := Lib.hid (HQ.out nq)
  clear c0 c1 c2 c3 c4 c5 c6 c7 c8 c9 c10 c11 c12 c13 c14 c15 c16 cf
  have h5 := h6'.out
  clear HQ h6
  generalize World.drewN w7 nq = w9 at *
  obtain ⟨c0, c1, c2, c3, c4, c5, c6, c7, c8, c9, c10, c11, c12, c13, c14, c15, c16, cf⟩ := rsCells h5
  clear h5
  have HF := Lib.hid h6'.out
  clear h6'
  go_wp2_with fail
  go_ret
  exact ⟨rfl, HF.out⟩
set_option maxHeartbeats 1000000 in
theorem rs30_no (hr : RsOk c nd li av) (hn : ws.length ≤ 1000000) (hl : lg.length < 1000000) (y : Int) (hi : av < ws.length) (hy : ws.getD av 0 = y) (n0 : 1 ≤ n) (n1 : n ≤ 1048576) (hb : bb = -n) (y0 : -1000000000000000000 ≤ y) (y1 : y ≤ 1000000000000000000) (hc : y < n)
    (h : Own w0 F0 (blk k (rsO c pp np cp pl nl cl 3 nd n 0 saw er an) :: memA T m ws lg :: L) w) :
    Calls Try.prog 47 #[.pointer (some ⟨k, 0, none⟩), .pointer (some ⟨m, 0, none⟩)] w fun en w' => en = .returned (.bool true) ∧
      Own w0 F0 (blk k (rsO c pp np cp pl nl cl 3 nd n 9 y 4 nd) :: memA T m ws (lg ++ [⟨1, av, y, 0, false⟩]) :: L) w' := by
  have H1 := fun w => Lib.hid (rLimit_q (pp := pp) (np := np) (cp := cp) (pl := pl) (nl := nl) (cl := cl) c hr.hs nd hr.v0 hr.v1 w)
  have H2 := fun w => Lib.hid (rAvail_q (pp := pp) (np := np) (cp := cp) (pl := pl) (nl := nl) (cl := cl) c hr.hs nd hr.v0 hr.v1 w)
  rw [hr.p0] at H1
  rw [hr.p1] at H2
  have HLd := fun L w h => Lib.hid (rLoad_z (w0 := w0) (F0 := F0) (L := L) (T := T) (m := m) (ws := ws) (lg := lg) (w := w) av y hy hi hl h)
  have hd1 : decide (y < n) = true := by simp; omega
  have hwn : IntKind.i64.wrap (-n) = bb := by rw [hb]; exact IntWalk.i64_in _ (by omega)
  have hwn2 : -n = bb := hb.symm
  have Hb := Lib.hid hb
  clear hb
  clear hl hn hi hy
  obtain ⟨c0, c1, c2, c3, c4, c5, c6, c7, c8, c9, c10, c11, c12, c13, c14, c15, c16, cf⟩ := rsCells h
  have hO := h.drew
  clear h hr
  go_enter Try.func47, Try.ntmps47
  go_wp2_with fail
  go_region_held3 (fun w' => w'.cell? ⟨k, 1, none⟩ = some (.int .i64 c.th) ∧ w'.cell? ⟨k, 2, none⟩ = some (.int .i64 c.st) ∧ w'.cell? ⟨k, 3, none⟩ = some (.int .i64 c.ga) ∧ w'.cell? ⟨k, 4, none⟩ = some (.int .i64 c.le) ∧ w'.cell? ⟨k, 5, none⟩ = some (.int .i64 c.re) ∧ w'.cell? ⟨k, 6, none⟩ = some (.int .i64 c.ti) ∧ w'.cell? ⟨k, 7, none⟩ = some (.slice pp np cp) ∧ w'.cell? ⟨k, 8, none⟩ = some (.slice pl nl cl) ∧ w'.cell? ⟨k, 9, none⟩ = some (.int .i64 nd)) (go_keep) (first | (go_at_call 30; refine (H1 _).out.mono ?_; rintro e1 w1 ⟨rfl, hB⟩; have hO1 := Own.below (by with_reducible assumption) hB; obtain ⟨c0, c1, c2, c3, c4, c5, c6, c7, c8, c9, c10, c11, c12, c13, c14, c15, c16, cf⟩ := rsCells hO1))
  clear hB
  have hO2 := hO1.drew
  go_wp2_with fail
  go_region_held3 (fun w' => w'.cell? ⟨k, 1, none⟩ = some (.int .i64 c.th) ∧ w'.cell? ⟨k, 2, none⟩ = some (.int .i64 c.st) ∧ w'.cell? ⟨k, 3, none⟩ = some (.int .i64 c.ga) ∧ w'.cell? ⟨k, 4, none⟩ = some (.int .i64 c.le) ∧ w'.cell? ⟨k, 5, none⟩ = some (.int .i64 c.re) ∧ w'.cell? ⟨k, 6, none⟩ = some (.int .i64 c.ti) ∧ w'.cell? ⟨k, 7, none⟩ = some (.slice pp np cp) ∧ w'.cell? ⟨k, 8, none⟩ = some (.slice pl nl cl) ∧ w'.cell? ⟨k, 9, none⟩ = some (.int .i64 nd)) (go_keep) (first | (go_at_call 31; refine (H2 _).out.mono ?_; rintro e1 w2 ⟨rfl, hB⟩; have hO3 := Own.below (by with_reducible assumption) hB; obtain ⟨c0, c1, c2, c3, c4, c5, c6, c7, c8, c9, c10, c11, c12, c13, c14, c15, c16, cf⟩ := rsCells hO3))
  clear hB hO hO1 hO2
  have hO4 := hO3.drew
  clear hO3
  go_wp2_with fail
  go_region_held3 (fun w' => w'.cell? ⟨k, 1, none⟩ = some (.int .i64 c.th) ∧ w'.cell? ⟨k, 2, none⟩ = some (.int .i64 c.st) ∧ w'.cell? ⟨k, 3, none⟩ = some (.int .i64 c.ga) ∧ w'.cell? ⟨k, 4, none⟩ = some (.int .i64 c.le) ∧ w'.cell? ⟨k, 5, none⟩ = some (.int .i64 c.re) ∧ w'.cell? ⟨k, 6, none⟩ = some (.int .i64 c.ti) ∧ w'.cell? ⟨k, 7, none⟩ = some (.slice pp np cp) ∧ w'.cell? ⟨k, 8, none⟩ = some (.slice pl nl cl) ∧ w'.cell? ⟨k, 9, none⟩ = some (.int .i64 nd)) (go_keep) (first | (go_at_call 31; refine (H2 _).out.mono ?_; rintro e1 w3 ⟨rfl, hB⟩; have hO5 := Own.below (by with_reducible assumption) hB; obtain ⟨c0, c1, c2, c3, c4, c5, c6, c7, c8, c9, c10, c11, c12, c13, c14, c15, c16, cf⟩ := rsCells hO5))
  clear hB hO4
  have hO6 := hO5.drew
  clear hO5
  go_wp2_with fail
  go_region_held3 (fun w' => w'.cell? ⟨k, 1, none⟩ = some (.int .i64 c.th) ∧ w'.cell? ⟨k, 2, none⟩ = some (.int .i64 c.st) ∧ w'.cell? ⟨k, 3, none⟩ = some (.int .i64 c.ga) ∧ w'.cell? ⟨k, 4, none⟩ = some (.int .i64 c.le) ∧ w'.cell? ⟨k, 5, none⟩ = some (.int .i64 c.re) ∧ w'.cell? ⟨k, 6, none⟩ = some (.int .i64 c.ti) ∧ w'.cell? ⟨k, 7, none⟩ = some (.slice pp np cp) ∧ w'.cell? ⟨k, 8, none⟩ = some (.slice pl nl cl) ∧ w'.cell? ⟨k, 9, none⟩ = some (.int .i64 nd)) (go_keep) (first | (go_at_call 30; refine (H1 _).out.mono ?_; rintro e1 w4 ⟨rfl, hB⟩; have hO7 := Own.below (by with_reducible assumption) hB; obtain ⟨c0, c1, c2, c3, c4, c5, c6, c7, c8, c9, c10, c11, c12, c13, c14, c15, c16, cf⟩ := rsCells hO7))
  clear hB hO6 H1 H2
  have HO := Lib.hid hO7
  clear hO7
  have H3 := HLd _ _ HO.out.swap
  clear HLd HO
  go_wp2_with fail
  refine H3.out.mono ?_
  rintro e1 w5 ⟨rfl, hM⟩
  clear c0 c1 c2 c3 c4 c5 c6 c7 c8 c9 c10 c11 c12 c13 c14 c15 c16 cf
  obtain ⟨c0, c1, c2, c3, c4, c5, c6, c7, c8, c9, c10, c11, c12, c13, c14, c15, c16, cf⟩ := rsCells hM.swap
  have HM := Lib.hid hM.swap
  clear H3 hM
  have h4 := Lib.hid ((HM.out.set 12 (.int .i64 y)).set 11 (.int .i64 1))
  clear HM
  go_wp2_with fail
  generalize World.setCell _ _ _ = w6 at h4 ⊢
  have h4 : Own w0 F0 (blk k (rsO c pp np cp pl nl cl 3 nd n 1 y er an) :: memA T m ws (lg ++ [⟨1, av, y, 0, false⟩]) :: L) w6 := h4.out
  clear c0 c1 c2 c3 c4 c5 c6 c7 c8 c9 c10 c11 c12 c13 c14 c15 c16 cf
  obtain ⟨c0, c1, c2, c3, c4, c5, c6, c7, c8, c9, c10, c11, c12, c13, c14, c15, c16, cf⟩ := rsCells h4
  have h4 := Lib.hid h4
  have HQ := Lib.hid (fun q => h4.out.drewN q)
  go_wp2_with fail
  go_quiet (fail)
  have h4' := Lib.hid (HQ.out nq)
  clear c0 c1 c2 c3 c4 c5 c6 c7 c8 c9 c10 c11 c12 c13 c14 c15 c16 cf
  have h5 := h4'.out
  clear HQ h4
  generalize World.drewN w6 nq = w7 at *
  obtain ⟨c0, c1, c2, c3, c4, c5, c6, c7, c8, c9, c10, c11, c12, c13, c14, c15, c16, cf⟩ := rsCells h5
  clear h5
  have h6 := Lib.hid h4'.out
  clear h4'
  have HQ := Lib.hid (fun q => h6.out.drewN q)
  go_wp2_with fail
  go_quiet (fail)
  have h6' := Lib.hid (HQ.out nq)
  clear c0 c1 c2 c3 c4 c5 c6 c7 c8 c9 c10 c11 c12 c13 c14 c15 c16 cf
  have h5 := h6'.out
  clear HQ h6
  generalize World.drewN w7 nq = w9 at *
  obtain ⟨c0, c1, c2, c3, c4, c5, c6, c7, c8, c9, c10, c11, c12, c13, c14, c15, c16, cf⟩ := rsCells h5
  clear h5
  have HF := Lib.hid (((((h6'.out.set 13 (.int .i64 4)).set 14 (.int .i64 0)).set 15 (.bool false)).set 16 (.int .i64 nd)).set 11 (.int .i64 9))
  clear h6'
  go_wp2_with fail
  go_ret
  exact ⟨rfl, HF.out⟩
set_option maxHeartbeats 1000000 in
theorem rs30_yes (hr : RsOk c nd li av) (hn : ws.length ≤ 1000000) (hl : lg.length < 1000000) (y : Int) (hi : av < ws.length) (hy : ws.getD av 0 = y) (n0 : 1 ≤ n) (n1 : n ≤ 1048576) (hb : bb = -n) (y0 : -1000000000000000000 ≤ y) (y1 : y ≤ 1000000000000000000) (hc : n ≤ y)
    (h : Own w0 F0 (blk k (rsO c pp np cp pl nl cl 3 nd n 0 saw er an) :: memA T m ws lg :: L) w) :
    Calls Try.prog 47 #[.pointer (some ⟨k, 0, none⟩), .pointer (some ⟨m, 0, none⟩)] w fun en w' => en = .returned (.bool false) ∧
      Own w0 F0 (blk k (rsO c pp np cp pl nl cl 3 nd n 1 y er an) :: memA T m ws (lg ++ [⟨1, av, y, 0, false⟩]) :: L) w' := by
  have H1 := fun w => Lib.hid (rLimit_q (pp := pp) (np := np) (cp := cp) (pl := pl) (nl := nl) (cl := cl) c hr.hs nd hr.v0 hr.v1 w)
  have H2 := fun w => Lib.hid (rAvail_q (pp := pp) (np := np) (cp := cp) (pl := pl) (nl := nl) (cl := cl) c hr.hs nd hr.v0 hr.v1 w)
  rw [hr.p0] at H1
  rw [hr.p1] at H2
  have HLd := fun L w h => Lib.hid (rLoad_z (w0 := w0) (F0 := F0) (L := L) (T := T) (m := m) (ws := ws) (lg := lg) (w := w) av y hy hi hl h)
  have hd1 : decide (y < n) = false := by simp; omega
  have hwn : IntKind.i64.wrap (-n) = bb := by rw [hb]; exact IntWalk.i64_in _ (by omega)
  have hwn2 : -n = bb := hb.symm
  have Hb := Lib.hid hb
  clear hb
  clear hl hn hi hy
  obtain ⟨c0, c1, c2, c3, c4, c5, c6, c7, c8, c9, c10, c11, c12, c13, c14, c15, c16, cf⟩ := rsCells h
  have hO := h.drew
  clear h hr
  go_enter Try.func47, Try.ntmps47
  go_wp2_with fail
  go_region_held3 (fun w' => w'.cell? ⟨k, 1, none⟩ = some (.int .i64 c.th) ∧ w'.cell? ⟨k, 2, none⟩ = some (.int .i64 c.st) ∧ w'.cell? ⟨k, 3, none⟩ = some (.int .i64 c.ga) ∧ w'.cell? ⟨k, 4, none⟩ = some (.int .i64 c.le) ∧ w'.cell? ⟨k, 5, none⟩ = some (.int .i64 c.re) ∧ w'.cell? ⟨k, 6, none⟩ = some (.int .i64 c.ti) ∧ w'.cell? ⟨k, 7, none⟩ = some (.slice pp np cp) ∧ w'.cell? ⟨k, 8, none⟩ = some (.slice pl nl cl) ∧ w'.cell? ⟨k, 9, none⟩ = some (.int .i64 nd)) (go_keep) (first | (go_at_call 30; refine (H1 _).out.mono ?_; rintro e1 w1 ⟨rfl, hB⟩; have hO1 := Own.below (by with_reducible assumption) hB; obtain ⟨c0, c1, c2, c3, c4, c5, c6, c7, c8, c9, c10, c11, c12, c13, c14, c15, c16, cf⟩ := rsCells hO1))
  clear hB
  have hO2 := hO1.drew
  go_wp2_with fail
  go_region_held3 (fun w' => w'.cell? ⟨k, 1, none⟩ = some (.int .i64 c.th) ∧ w'.cell? ⟨k, 2, none⟩ = some (.int .i64 c.st) ∧ w'.cell? ⟨k, 3, none⟩ = some (.int .i64 c.ga) ∧ w'.cell? ⟨k, 4, none⟩ = some (.int .i64 c.le) ∧ w'.cell? ⟨k, 5, none⟩ = some (.int .i64 c.re) ∧ w'.cell? ⟨k, 6, none⟩ = some (.int .i64 c.ti) ∧ w'.cell? ⟨k, 7, none⟩ = some (.slice pp np cp) ∧ w'.cell? ⟨k, 8, none⟩ = some (.slice pl nl cl) ∧ w'.cell? ⟨k, 9, none⟩ = some (.int .i64 nd)) (go_keep) (first | (go_at_call 31; refine (H2 _).out.mono ?_; rintro e1 w2 ⟨rfl, hB⟩; have hO3 := Own.below (by with_reducible assumption) hB; obtain ⟨c0, c1, c2, c3, c4, c5, c6, c7, c8, c9, c10, c11, c12, c13, c14, c15, c16, cf⟩ := rsCells hO3))
  clear hB hO hO1 hO2
  have hO4 := hO3.drew
  clear hO3
  go_wp2_with fail
  go_region_held3 (fun w' => w'.cell? ⟨k, 1, none⟩ = some (.int .i64 c.th) ∧ w'.cell? ⟨k, 2, none⟩ = some (.int .i64 c.st) ∧ w'.cell? ⟨k, 3, none⟩ = some (.int .i64 c.ga) ∧ w'.cell? ⟨k, 4, none⟩ = some (.int .i64 c.le) ∧ w'.cell? ⟨k, 5, none⟩ = some (.int .i64 c.re) ∧ w'.cell? ⟨k, 6, none⟩ = some (.int .i64 c.ti) ∧ w'.cell? ⟨k, 7, none⟩ = some (.slice pp np cp) ∧ w'.cell? ⟨k, 8, none⟩ = some (.slice pl nl cl) ∧ w'.cell? ⟨k, 9, none⟩ = some (.int .i64 nd)) (go_keep) (first | (go_at_call 31; refine (H2 _).out.mono ?_; rintro e1 w3 ⟨rfl, hB⟩; have hO5 := Own.below (by with_reducible assumption) hB; obtain ⟨c0, c1, c2, c3, c4, c5, c6, c7, c8, c9, c10, c11, c12, c13, c14, c15, c16, cf⟩ := rsCells hO5))
  clear hB hO4
  have hO6 := hO5.drew
  clear hO5
  go_wp2_with fail
  go_region_held3 (fun w' => w'.cell? ⟨k, 1, none⟩ = some (.int .i64 c.th) ∧ w'.cell? ⟨k, 2, none⟩ = some (.int .i64 c.st) ∧ w'.cell? ⟨k, 3, none⟩ = some (.int .i64 c.ga) ∧ w'.cell? ⟨k, 4, none⟩ = some (.int .i64 c.le) ∧ w'.cell? ⟨k, 5, none⟩ = some (.int .i64 c.re) ∧ w'.cell? ⟨k, 6, none⟩ = some (.int .i64 c.ti) ∧ w'.cell? ⟨k, 7, none⟩ = some (.slice pp np cp) ∧ w'.cell? ⟨k, 8, none⟩ = some (.slice pl nl cl) ∧ w'.cell? ⟨k, 9, none⟩ = some (.int .i64 nd)) (go_keep) (first | (go_at_call 30; refine (H1 _).out.mono ?_; rintro e1 w4 ⟨rfl, hB⟩; have hO7 := Own.below (by with_reducible assumption) hB; obtain ⟨c0, c1, c2, c3, c4, c5, c6, c7, c8, c9, c10, c11, c12, c13, c14, c15, c16, cf⟩ := rsCells hO7))
  clear hB hO6 H1 H2
  have HO := Lib.hid hO7
  clear hO7
  have H3 := HLd _ _ HO.out.swap
  clear HLd HO
  go_wp2_with fail
  refine H3.out.mono ?_
  rintro e1 w5 ⟨rfl, hM⟩
  clear c0 c1 c2 c3 c4 c5 c6 c7 c8 c9 c10 c11 c12 c13 c14 c15 c16 cf
  obtain ⟨c0, c1, c2, c3, c4, c5, c6, c7, c8, c9, c10, c11, c12, c13, c14, c15, c16, cf⟩ := rsCells hM.swap
  have HM := Lib.hid hM.swap
  clear H3 hM
  have h4 := Lib.hid ((HM.out.set 12 (.int .i64 y)).set 11 (.int .i64 1))
  clear HM
  go_wp2_with fail
  generalize World.setCell _ _ _ = w6 at h4 ⊢
  have h4 : Own w0 F0 (blk k (rsO c pp np cp pl nl cl 3 nd n 1 y er an) :: memA T m ws (lg ++ [⟨1, av, y, 0, false⟩]) :: L) w6 := h4.out
  clear c0 c1 c2 c3 c4 c5 c6 c7 c8 c9 c10 c11 c12 c13 c14 c15 c16 cf
  obtain ⟨c0, c1, c2, c3, c4, c5, c6, c7, c8, c9, c10, c11, c12, c13, c14, c15, c16, cf⟩ := rsCells h4
  have h4 := Lib.hid h4
  have HQ := Lib.hid (fun q => h4.out.drewN q)
  go_wp2_with fail
  go_quiet (fail)
  have h4' := Lib.hid (HQ.out nq)
  clear c0 c1 c2 c3 c4 c5 c6 c7 c8 c9 c10 c11 c12 c13 c14 c15 c16 cf
  have h5 := h4'.out
  clear HQ h4
  generalize World.drewN w6 nq = w7 at *
  obtain ⟨c0, c1, c2, c3, c4, c5, c6, c7, c8, c9, c10, c11, c12, c13, c14, c15, c16, cf⟩ := rsCells h5
  clear h5
  have h6 := Lib.hid h4'.out
  clear h4'
  have HQ := Lib.hid (fun q => h6.out.drewN q)
  go_wp2_with fail
  go_quiet (fail)
  have h6' := Lib.hid (HQ.out nq)
  clear c0 c1 c2 c3 c4 c5 c6 c7 c8 c9 c10 c11 c12 c13 c14 c15 c16 cf
  have h5 := h6'.out
  clear HQ h6
  generalize World.drewN w7 nq = w9 at *
  obtain ⟨c0, c1, c2, c3, c4, c5, c6, c7, c8, c9, c10, c11, c12, c13, c14, c15, c16, cf⟩ := rsCells h5
  clear h5
  have HF := Lib.hid h6'.out
  clear h6'
  go_wp2_with fail
  go_ret
  exact ⟨rfl, HF.out⟩
set_option maxHeartbeats 1000000 in
theorem rs21_yes (hr : RsOk c nd li av) (hn : ws.length ≤ 1000000) (hl : lg.length < 1000000) (hi : li < ws.length) (he : ws.getD li 0 = saw) (n0 : 1 ≤ n) (n1 : n ≤ 1048576) (b0 : -1000000000000000000 ≤ saw) (b1 : saw ≤ 1000000000000000000)
    (h : Own w0 F0 (blk k (rsO c pp np cp pl nl cl 2 nd n 1 saw er an) :: memA T m ws lg :: L) w) :
    Calls Try.prog 47 #[.pointer (some ⟨k, 0, none⟩), .pointer (some ⟨m, 0, none⟩)] w fun en w' => en = .returned (.bool false) ∧
      Own w0 F0 (blk k (rsO c pp np cp pl nl cl 2 nd n 2 saw er an) :: memA T m (ws.set li (saw + n)) (lg ++ [⟨3, li, saw, saw + n, true⟩]) :: L) w' := by
  have H1 := fun w => Lib.hid (rLimit_q (pp := pp) (np := np) (cp := cp) (pl := pl) (nl := nl) (cl := cl) c hr.hs nd hr.v0 hr.v1 w)
  have H2 := fun w => Lib.hid (rAvail_q (pp := pp) (np := np) (cp := cp) (pl := pl) (nl := nl) (cl := cl) c hr.hs nd hr.v0 hr.v1 w)
  rw [hr.p0] at H1
  rw [hr.p1] at H2
  have HC := fun L w h => Lib.hid (rCas_yes (w0 := w0) (F0 := F0) (T := T) (m := m) (ws := ws) (l := lg) (w := w) (L := L) li saw (saw + n) hi hn hl he h)
  have hw1 : IntKind.i64.wrap (saw + n) = saw + n := IntWalk.i64_in _ (by omega)
  clear hl hn hi he
  obtain ⟨c0, c1, c2, c3, c4, c5, c6, c7, c8, c9, c10, c11, c12, c13, c14, c15, c16, cf⟩ := rsCells h
  have hO := h.drew
  clear h hr
  go_enter Try.func47, Try.ntmps47
  go_wp2_with fail
  go_region_held3 (fun w' => w'.cell? ⟨k, 1, none⟩ = some (.int .i64 c.th) ∧ w'.cell? ⟨k, 2, none⟩ = some (.int .i64 c.st) ∧ w'.cell? ⟨k, 3, none⟩ = some (.int .i64 c.ga) ∧ w'.cell? ⟨k, 4, none⟩ = some (.int .i64 c.le) ∧ w'.cell? ⟨k, 5, none⟩ = some (.int .i64 c.re) ∧ w'.cell? ⟨k, 6, none⟩ = some (.int .i64 c.ti) ∧ w'.cell? ⟨k, 7, none⟩ = some (.slice pp np cp) ∧ w'.cell? ⟨k, 8, none⟩ = some (.slice pl nl cl) ∧ w'.cell? ⟨k, 9, none⟩ = some (.int .i64 nd)) (go_keep) (first | (go_at_call 30; refine (H1 _).out.mono ?_; rintro e1 w1 ⟨rfl, hB⟩; have hO1 := Own.below (by with_reducible assumption) hB; obtain ⟨c0, c1, c2, c3, c4, c5, c6, c7, c8, c9, c10, c11, c12, c13, c14, c15, c16, cf⟩ := rsCells hO1))
  clear hB
  have hO2 := hO1.drew
  go_wp2_with fail
  go_region_held3 (fun w' => w'.cell? ⟨k, 1, none⟩ = some (.int .i64 c.th) ∧ w'.cell? ⟨k, 2, none⟩ = some (.int .i64 c.st) ∧ w'.cell? ⟨k, 3, none⟩ = some (.int .i64 c.ga) ∧ w'.cell? ⟨k, 4, none⟩ = some (.int .i64 c.le) ∧ w'.cell? ⟨k, 5, none⟩ = some (.int .i64 c.re) ∧ w'.cell? ⟨k, 6, none⟩ = some (.int .i64 c.ti) ∧ w'.cell? ⟨k, 7, none⟩ = some (.slice pp np cp) ∧ w'.cell? ⟨k, 8, none⟩ = some (.slice pl nl cl) ∧ w'.cell? ⟨k, 9, none⟩ = some (.int .i64 nd)) (go_keep) (first | (go_at_call 31; refine (H2 _).out.mono ?_; rintro e1 w2 ⟨rfl, hB⟩; have hO3 := Own.below (by with_reducible assumption) hB; obtain ⟨c0, c1, c2, c3, c4, c5, c6, c7, c8, c9, c10, c11, c12, c13, c14, c15, c16, cf⟩ := rsCells hO3))
  clear hB hO hO1 hO2
  have HO := Lib.hid hO3
  clear hO3 H1 H2
  have h4 := Lib.hid (HO.out.set 11 (.int .i64 0))
  clear HO
  go_wp2_with fail
  generalize World.setCell _ _ _ = w6 at h4 ⊢
  have h4 : Own w0 F0 (blk k (rsO c pp np cp pl nl cl 2 nd n 0 saw er an) :: memA T m ws lg :: L) w6 := h4.out
  clear c0 c1 c2 c3 c4 c5 c6 c7 c8 c9 c10 c11 c12 c13 c14 c15 c16 cf
  obtain ⟨c0, c1, c2, c3, c4, c5, c6, c7, c8, c9, c10, c11, c12, c13, c14, c15, c16, cf⟩ := rsCells h4
  have hO := h4.swap.drew
  clear h4
  go_region_held3 (fun w' => w'.cell? ⟨k, 12, none⟩ = some (.int .i64 saw)) (go_keep) (first | (go_at_call 73; with_reducible refine Calls.mono (Hid.out (HC _ _ hO)) ?_; rintro e1 w7 ⟨rfl, hM⟩; obtain ⟨c0, c1, c2, c3, c4, c5, c6, c7, c8, c9, c10, c11, c12, c13, c14, c15, c16, cf⟩ := rsCells hM.swap))
  have HM := Lib.hid hM.swap
  clear hO HC hM
  have HF := Lib.hid (HM.out.set 11 (.int .i64 2))
  clear HM
  go_wp2_with fail
  go_ret
  exact ⟨rfl, HF.out⟩
set_option maxHeartbeats 1000000 in
theorem rs21_no (hr : RsOk c nd li av) (hn : ws.length ≤ 1000000) (hl : lg.length < 1000000) (hi : li < ws.length) (he : ws.getD li 0 ≠ saw) (n0 : 1 ≤ n) (n1 : n ≤ 1048576) (b0 : -1000000000000000000 ≤ saw) (b1 : saw ≤ 1000000000000000000)
    (h : Own w0 F0 (blk k (rsO c pp np cp pl nl cl 2 nd n 1 saw er an) :: memA T m ws lg :: L) w) :
    Calls Try.prog 47 #[.pointer (some ⟨k, 0, none⟩), .pointer (some ⟨m, 0, none⟩)] w fun en w' => en = .returned (.bool false) ∧
      Own w0 F0 (blk k (rsO c pp np cp pl nl cl 2 nd n 0 saw er an) :: memA T m ws (lg ++ [⟨3, li, saw, saw + n, false⟩]) :: L) w' := by
  have H1 := fun w => Lib.hid (rLimit_q (pp := pp) (np := np) (cp := cp) (pl := pl) (nl := nl) (cl := cl) c hr.hs nd hr.v0 hr.v1 w)
  have H2 := fun w => Lib.hid (rAvail_q (pp := pp) (np := np) (cp := cp) (pl := pl) (nl := nl) (cl := cl) c hr.hs nd hr.v0 hr.v1 w)
  rw [hr.p0] at H1
  rw [hr.p1] at H2
  have HC := fun L w h => Lib.hid (rCas_no (w0 := w0) (F0 := F0) (T := T) (m := m) (ws := ws) (l := lg) (w := w) (L := L) li saw (saw + n) hi hl he h)
  have hw1 : IntKind.i64.wrap (saw + n) = saw + n := IntWalk.i64_in _ (by omega)
  clear hl hn hi he
  obtain ⟨c0, c1, c2, c3, c4, c5, c6, c7, c8, c9, c10, c11, c12, c13, c14, c15, c16, cf⟩ := rsCells h
  have hO := h.drew
  clear h hr
  go_enter Try.func47, Try.ntmps47
  go_wp2_with fail
  go_region_held3 (fun w' => w'.cell? ⟨k, 1, none⟩ = some (.int .i64 c.th) ∧ w'.cell? ⟨k, 2, none⟩ = some (.int .i64 c.st) ∧ w'.cell? ⟨k, 3, none⟩ = some (.int .i64 c.ga) ∧ w'.cell? ⟨k, 4, none⟩ = some (.int .i64 c.le) ∧ w'.cell? ⟨k, 5, none⟩ = some (.int .i64 c.re) ∧ w'.cell? ⟨k, 6, none⟩ = some (.int .i64 c.ti) ∧ w'.cell? ⟨k, 7, none⟩ = some (.slice pp np cp) ∧ w'.cell? ⟨k, 8, none⟩ = some (.slice pl nl cl) ∧ w'.cell? ⟨k, 9, none⟩ = some (.int .i64 nd)) (go_keep) (first | (go_at_call 30; refine (H1 _).out.mono ?_; rintro e1 w1 ⟨rfl, hB⟩; have hO1 := Own.below (by with_reducible assumption) hB; obtain ⟨c0, c1, c2, c3, c4, c5, c6, c7, c8, c9, c10, c11, c12, c13, c14, c15, c16, cf⟩ := rsCells hO1))
  clear hB
  have hO2 := hO1.drew
  go_wp2_with fail
  go_region_held3 (fun w' => w'.cell? ⟨k, 1, none⟩ = some (.int .i64 c.th) ∧ w'.cell? ⟨k, 2, none⟩ = some (.int .i64 c.st) ∧ w'.cell? ⟨k, 3, none⟩ = some (.int .i64 c.ga) ∧ w'.cell? ⟨k, 4, none⟩ = some (.int .i64 c.le) ∧ w'.cell? ⟨k, 5, none⟩ = some (.int .i64 c.re) ∧ w'.cell? ⟨k, 6, none⟩ = some (.int .i64 c.ti) ∧ w'.cell? ⟨k, 7, none⟩ = some (.slice pp np cp) ∧ w'.cell? ⟨k, 8, none⟩ = some (.slice pl nl cl) ∧ w'.cell? ⟨k, 9, none⟩ = some (.int .i64 nd)) (go_keep) (first | (go_at_call 31; refine (H2 _).out.mono ?_; rintro e1 w2 ⟨rfl, hB⟩; have hO3 := Own.below (by with_reducible assumption) hB; obtain ⟨c0, c1, c2, c3, c4, c5, c6, c7, c8, c9, c10, c11, c12, c13, c14, c15, c16, cf⟩ := rsCells hO3))
  clear hB hO hO1 hO2
  have HO := Lib.hid hO3
  clear hO3 H1 H2
  have h4 := Lib.hid (HO.out.set 11 (.int .i64 0))
  clear HO
  go_wp2_with fail
  generalize World.setCell _ _ _ = w6 at h4 ⊢
  have h4 : Own w0 F0 (blk k (rsO c pp np cp pl nl cl 2 nd n 0 saw er an) :: memA T m ws lg :: L) w6 := h4.out
  clear c0 c1 c2 c3 c4 c5 c6 c7 c8 c9 c10 c11 c12 c13 c14 c15 c16 cf
  obtain ⟨c0, c1, c2, c3, c4, c5, c6, c7, c8, c9, c10, c11, c12, c13, c14, c15, c16, cf⟩ := rsCells h4
  have hO := h4.swap.drew
  clear h4
  go_region_held3 (fun w' => w'.cell? ⟨k, 12, none⟩ = some (.int .i64 saw)) (go_keep) (first | (go_at_call 73; with_reducible refine Calls.mono (Hid.out (HC _ _ hO)) ?_; rintro e1 w7 ⟨rfl, hM⟩; obtain ⟨c0, c1, c2, c3, c4, c5, c6, c7, c8, c9, c10, c11, c12, c13, c14, c15, c16, cf⟩ := rsCells hM.swap))
  have HM := Lib.hid hM.swap
  clear hO HC hM
  have HF := Lib.hid HM.out
  clear HM
  go_wp2_with fail
  go_ret
  exact ⟨rfl, HF.out⟩
set_option maxHeartbeats 1000000 in
theorem rs31_yes (hr : RsOk c nd li av) (hn : ws.length ≤ 1000000) (hl : lg.length < 1000000) (hi : av < ws.length) (he : ws.getD av 0 = saw) (n0 : 1 ≤ n) (n1 : n ≤ 1048576) (hb : bb = -n) (b0 : -1000000000000000000 ≤ saw) (b1 : saw ≤ 1000000000000000000)
    (h : Own w0 F0 (blk k (rsO c pp np cp pl nl cl 3 nd n 1 saw er an) :: memA T m ws lg :: L) w) :
    Calls Try.prog 47 #[.pointer (some ⟨k, 0, none⟩), .pointer (some ⟨m, 0, none⟩)] w fun en w' => en = .returned (.bool false) ∧
      Own w0 F0 (blk k (rsO c pp np cp pl nl cl 3 nd n 2 saw er an) :: memA T m (ws.set av (saw + bb)) (lg ++ [⟨3, av, saw, saw + bb, true⟩]) :: L) w' := by
  have H1 := fun w => Lib.hid (rLimit_q (pp := pp) (np := np) (cp := cp) (pl := pl) (nl := nl) (cl := cl) c hr.hs nd hr.v0 hr.v1 w)
  have H2 := fun w => Lib.hid (rAvail_q (pp := pp) (np := np) (cp := cp) (pl := pl) (nl := nl) (cl := cl) c hr.hs nd hr.v0 hr.v1 w)
  rw [hr.p0] at H1
  rw [hr.p1] at H2
  have HC := fun L w h => Lib.hid (rCas_yes (w0 := w0) (F0 := F0) (T := T) (m := m) (ws := ws) (l := lg) (w := w) (L := L) av saw (saw + bb) hi hn hl he h)
  have hw1 : IntKind.i64.wrap (saw + bb) = saw + bb := IntWalk.i64_in _ (by omega)
  have hwn : IntKind.i64.wrap (-n) = bb := by rw [hb]; exact IntWalk.i64_in _ (by omega)
  have hwn2 : -n = bb := hb.symm
  have Hb := Lib.hid hb
  clear hb
  clear hl hn hi he
  obtain ⟨c0, c1, c2, c3, c4, c5, c6, c7, c8, c9, c10, c11, c12, c13, c14, c15, c16, cf⟩ := rsCells h
  have hO := h.drew
  clear h hr
  go_enter Try.func47, Try.ntmps47
  go_wp2_with fail
  go_region_held3 (fun w' => w'.cell? ⟨k, 1, none⟩ = some (.int .i64 c.th) ∧ w'.cell? ⟨k, 2, none⟩ = some (.int .i64 c.st) ∧ w'.cell? ⟨k, 3, none⟩ = some (.int .i64 c.ga) ∧ w'.cell? ⟨k, 4, none⟩ = some (.int .i64 c.le) ∧ w'.cell? ⟨k, 5, none⟩ = some (.int .i64 c.re) ∧ w'.cell? ⟨k, 6, none⟩ = some (.int .i64 c.ti) ∧ w'.cell? ⟨k, 7, none⟩ = some (.slice pp np cp) ∧ w'.cell? ⟨k, 8, none⟩ = some (.slice pl nl cl) ∧ w'.cell? ⟨k, 9, none⟩ = some (.int .i64 nd)) (go_keep) (first | (go_at_call 30; refine (H1 _).out.mono ?_; rintro e1 w1 ⟨rfl, hB⟩; have hO1 := Own.below (by with_reducible assumption) hB; obtain ⟨c0, c1, c2, c3, c4, c5, c6, c7, c8, c9, c10, c11, c12, c13, c14, c15, c16, cf⟩ := rsCells hO1))
  clear hB
  have hO2 := hO1.drew
  go_wp2_with fail
  go_region_held3 (fun w' => w'.cell? ⟨k, 1, none⟩ = some (.int .i64 c.th) ∧ w'.cell? ⟨k, 2, none⟩ = some (.int .i64 c.st) ∧ w'.cell? ⟨k, 3, none⟩ = some (.int .i64 c.ga) ∧ w'.cell? ⟨k, 4, none⟩ = some (.int .i64 c.le) ∧ w'.cell? ⟨k, 5, none⟩ = some (.int .i64 c.re) ∧ w'.cell? ⟨k, 6, none⟩ = some (.int .i64 c.ti) ∧ w'.cell? ⟨k, 7, none⟩ = some (.slice pp np cp) ∧ w'.cell? ⟨k, 8, none⟩ = some (.slice pl nl cl) ∧ w'.cell? ⟨k, 9, none⟩ = some (.int .i64 nd)) (go_keep) (first | (go_at_call 31; refine (H2 _).out.mono ?_; rintro e1 w2 ⟨rfl, hB⟩; have hO3 := Own.below (by with_reducible assumption) hB; obtain ⟨c0, c1, c2, c3, c4, c5, c6, c7, c8, c9, c10, c11, c12, c13, c14, c15, c16, cf⟩ := rsCells hO3))
  clear hB hO hO1 hO2
  have hO4 := hO3.drew
  clear hO3
  go_wp2_with fail
  go_region_held3 (fun w' => w'.cell? ⟨k, 1, none⟩ = some (.int .i64 c.th) ∧ w'.cell? ⟨k, 2, none⟩ = some (.int .i64 c.st) ∧ w'.cell? ⟨k, 3, none⟩ = some (.int .i64 c.ga) ∧ w'.cell? ⟨k, 4, none⟩ = some (.int .i64 c.le) ∧ w'.cell? ⟨k, 5, none⟩ = some (.int .i64 c.re) ∧ w'.cell? ⟨k, 6, none⟩ = some (.int .i64 c.ti) ∧ w'.cell? ⟨k, 7, none⟩ = some (.slice pp np cp) ∧ w'.cell? ⟨k, 8, none⟩ = some (.slice pl nl cl) ∧ w'.cell? ⟨k, 9, none⟩ = some (.int .i64 nd)) (go_keep) (first | (go_at_call 31; refine (H2 _).out.mono ?_; rintro e1 w3 ⟨rfl, hB⟩; have hO5 := Own.below (by with_reducible assumption) hB; obtain ⟨c0, c1, c2, c3, c4, c5, c6, c7, c8, c9, c10, c11, c12, c13, c14, c15, c16, cf⟩ := rsCells hO5))
  clear hB hO4
  have hO6 := hO5.drew
  clear hO5
  go_wp2_with fail
  go_region_held3 (fun w' => w'.cell? ⟨k, 1, none⟩ = some (.int .i64 c.th) ∧ w'.cell? ⟨k, 2, none⟩ = some (.int .i64 c.st) ∧ w'.cell? ⟨k, 3, none⟩ = some (.int .i64 c.ga) ∧ w'.cell? ⟨k, 4, none⟩ = some (.int .i64 c.le) ∧ w'.cell? ⟨k, 5, none⟩ = some (.int .i64 c.re) ∧ w'.cell? ⟨k, 6, none⟩ = some (.int .i64 c.ti) ∧ w'.cell? ⟨k, 7, none⟩ = some (.slice pp np cp) ∧ w'.cell? ⟨k, 8, none⟩ = some (.slice pl nl cl) ∧ w'.cell? ⟨k, 9, none⟩ = some (.int .i64 nd)) (go_keep) (first | (go_at_call 30; refine (H1 _).out.mono ?_; rintro e1 w4 ⟨rfl, hB⟩; have hO7 := Own.below (by with_reducible assumption) hB; obtain ⟨c0, c1, c2, c3, c4, c5, c6, c7, c8, c9, c10, c11, c12, c13, c14, c15, c16, cf⟩ := rsCells hO7))
  clear hB hO6 H1 H2
  have HO := Lib.hid hO7
  clear hO7
  have h4 := Lib.hid (HO.out.set 11 (.int .i64 0))
  clear HO
  go_wp2_with fail
  generalize World.setCell _ _ _ = w6 at h4 ⊢
  have h4 : Own w0 F0 (blk k (rsO c pp np cp pl nl cl 3 nd n 0 saw er an) :: memA T m ws lg :: L) w6 := h4.out
  clear c0 c1 c2 c3 c4 c5 c6 c7 c8 c9 c10 c11 c12 c13 c14 c15 c16 cf
  obtain ⟨c0, c1, c2, c3, c4, c5, c6, c7, c8, c9, c10, c11, c12, c13, c14, c15, c16, cf⟩ := rsCells h4
  have hO := h4.swap.drew
  clear h4
  go_region_held3 (fun w' => w'.cell? ⟨k, 12, none⟩ = some (.int .i64 saw)) (go_keep) (first | (go_at_call 73; with_reducible refine Calls.mono (Hid.out (HC _ _ hO)) ?_; rintro e1 w7 ⟨rfl, hM⟩; obtain ⟨c0, c1, c2, c3, c4, c5, c6, c7, c8, c9, c10, c11, c12, c13, c14, c15, c16, cf⟩ := rsCells hM.swap))
  have HM := Lib.hid hM.swap
  clear hO HC hM
  have HF := Lib.hid (HM.out.set 11 (.int .i64 2))
  clear HM
  go_wp2_with fail
  go_ret
  exact ⟨rfl, HF.out⟩
set_option maxHeartbeats 1000000 in
theorem rs31_no (hr : RsOk c nd li av) (hn : ws.length ≤ 1000000) (hl : lg.length < 1000000) (hi : av < ws.length) (he : ws.getD av 0 ≠ saw) (n0 : 1 ≤ n) (n1 : n ≤ 1048576) (hb : bb = -n) (b0 : -1000000000000000000 ≤ saw) (b1 : saw ≤ 1000000000000000000)
    (h : Own w0 F0 (blk k (rsO c pp np cp pl nl cl 3 nd n 1 saw er an) :: memA T m ws lg :: L) w) :
    Calls Try.prog 47 #[.pointer (some ⟨k, 0, none⟩), .pointer (some ⟨m, 0, none⟩)] w fun en w' => en = .returned (.bool false) ∧
      Own w0 F0 (blk k (rsO c pp np cp pl nl cl 3 nd n 0 saw er an) :: memA T m ws (lg ++ [⟨3, av, saw, saw + bb, false⟩]) :: L) w' := by
  have H1 := fun w => Lib.hid (rLimit_q (pp := pp) (np := np) (cp := cp) (pl := pl) (nl := nl) (cl := cl) c hr.hs nd hr.v0 hr.v1 w)
  have H2 := fun w => Lib.hid (rAvail_q (pp := pp) (np := np) (cp := cp) (pl := pl) (nl := nl) (cl := cl) c hr.hs nd hr.v0 hr.v1 w)
  rw [hr.p0] at H1
  rw [hr.p1] at H2
  have HC := fun L w h => Lib.hid (rCas_no (w0 := w0) (F0 := F0) (T := T) (m := m) (ws := ws) (l := lg) (w := w) (L := L) av saw (saw + bb) hi hl he h)
  have hw1 : IntKind.i64.wrap (saw + bb) = saw + bb := IntWalk.i64_in _ (by omega)
  have hwn : IntKind.i64.wrap (-n) = bb := by rw [hb]; exact IntWalk.i64_in _ (by omega)
  have hwn2 : -n = bb := hb.symm
  have Hb := Lib.hid hb
  clear hb
  clear hl hn hi he
  obtain ⟨c0, c1, c2, c3, c4, c5, c6, c7, c8, c9, c10, c11, c12, c13, c14, c15, c16, cf⟩ := rsCells h
  have hO := h.drew
  clear h hr
  go_enter Try.func47, Try.ntmps47
  go_wp2_with fail
  go_region_held3 (fun w' => w'.cell? ⟨k, 1, none⟩ = some (.int .i64 c.th) ∧ w'.cell? ⟨k, 2, none⟩ = some (.int .i64 c.st) ∧ w'.cell? ⟨k, 3, none⟩ = some (.int .i64 c.ga) ∧ w'.cell? ⟨k, 4, none⟩ = some (.int .i64 c.le) ∧ w'.cell? ⟨k, 5, none⟩ = some (.int .i64 c.re) ∧ w'.cell? ⟨k, 6, none⟩ = some (.int .i64 c.ti) ∧ w'.cell? ⟨k, 7, none⟩ = some (.slice pp np cp) ∧ w'.cell? ⟨k, 8, none⟩ = some (.slice pl nl cl) ∧ w'.cell? ⟨k, 9, none⟩ = some (.int .i64 nd)) (go_keep) (first | (go_at_call 30; refine (H1 _).out.mono ?_; rintro e1 w1 ⟨rfl, hB⟩; have hO1 := Own.below (by with_reducible assumption) hB; obtain ⟨c0, c1, c2, c3, c4, c5, c6, c7, c8, c9, c10, c11, c12, c13, c14, c15, c16, cf⟩ := rsCells hO1))
  clear hB
  have hO2 := hO1.drew
  go_wp2_with fail
  go_region_held3 (fun w' => w'.cell? ⟨k, 1, none⟩ = some (.int .i64 c.th) ∧ w'.cell? ⟨k, 2, none⟩ = some (.int .i64 c.st) ∧ w'.cell? ⟨k, 3, none⟩ = some (.int .i64 c.ga) ∧ w'.cell? ⟨k, 4, none⟩ = some (.int .i64 c.le) ∧ w'.cell? ⟨k, 5, none⟩ = some (.int .i64 c.re) ∧ w'.cell? ⟨k, 6, none⟩ = some (.int .i64 c.ti) ∧ w'.cell? ⟨k, 7, none⟩ = some (.slice pp np cp) ∧ w'.cell? ⟨k, 8, none⟩ = some (.slice pl nl cl) ∧ w'.cell? ⟨k, 9, none⟩ = some (.int .i64 nd)) (go_keep) (first | (go_at_call 31; refine (H2 _).out.mono ?_; rintro e1 w2 ⟨rfl, hB⟩; have hO3 := Own.below (by with_reducible assumption) hB; obtain ⟨c0, c1, c2, c3, c4, c5, c6, c7, c8, c9, c10, c11, c12, c13, c14, c15, c16, cf⟩ := rsCells hO3))
  clear hB hO hO1 hO2
  have hO4 := hO3.drew
  clear hO3
  go_wp2_with fail
  go_region_held3 (fun w' => w'.cell? ⟨k, 1, none⟩ = some (.int .i64 c.th) ∧ w'.cell? ⟨k, 2, none⟩ = some (.int .i64 c.st) ∧ w'.cell? ⟨k, 3, none⟩ = some (.int .i64 c.ga) ∧ w'.cell? ⟨k, 4, none⟩ = some (.int .i64 c.le) ∧ w'.cell? ⟨k, 5, none⟩ = some (.int .i64 c.re) ∧ w'.cell? ⟨k, 6, none⟩ = some (.int .i64 c.ti) ∧ w'.cell? ⟨k, 7, none⟩ = some (.slice pp np cp) ∧ w'.cell? ⟨k, 8, none⟩ = some (.slice pl nl cl) ∧ w'.cell? ⟨k, 9, none⟩ = some (.int .i64 nd)) (go_keep) (first | (go_at_call 31; refine (H2 _).out.mono ?_; rintro e1 w3 ⟨rfl, hB⟩; have hO5 := Own.below (by with_reducible assumption) hB; obtain ⟨c0, c1, c2, c3, c4, c5, c6, c7, c8, c9, c10, c11, c12, c13, c14, c15, c16, cf⟩ := rsCells hO5))
  clear hB hO4
  have hO6 := hO5.drew
  clear hO5
  go_wp2_with fail
  go_region_held3 (fun w' => w'.cell? ⟨k, 1, none⟩ = some (.int .i64 c.th) ∧ w'.cell? ⟨k, 2, none⟩ = some (.int .i64 c.st) ∧ w'.cell? ⟨k, 3, none⟩ = some (.int .i64 c.ga) ∧ w'.cell? ⟨k, 4, none⟩ = some (.int .i64 c.le) ∧ w'.cell? ⟨k, 5, none⟩ = some (.int .i64 c.re) ∧ w'.cell? ⟨k, 6, none⟩ = some (.int .i64 c.ti) ∧ w'.cell? ⟨k, 7, none⟩ = some (.slice pp np cp) ∧ w'.cell? ⟨k, 8, none⟩ = some (.slice pl nl cl) ∧ w'.cell? ⟨k, 9, none⟩ = some (.int .i64 nd)) (go_keep) (first | (go_at_call 30; refine (H1 _).out.mono ?_; rintro e1 w4 ⟨rfl, hB⟩; have hO7 := Own.below (by with_reducible assumption) hB; obtain ⟨c0, c1, c2, c3, c4, c5, c6, c7, c8, c9, c10, c11, c12, c13, c14, c15, c16, cf⟩ := rsCells hO7))
  clear hB hO6 H1 H2
  have HO := Lib.hid hO7
  clear hO7
  have h4 := Lib.hid (HO.out.set 11 (.int .i64 0))
  clear HO
  go_wp2_with fail
  generalize World.setCell _ _ _ = w6 at h4 ⊢
  have h4 : Own w0 F0 (blk k (rsO c pp np cp pl nl cl 3 nd n 0 saw er an) :: memA T m ws lg :: L) w6 := h4.out
  clear c0 c1 c2 c3 c4 c5 c6 c7 c8 c9 c10 c11 c12 c13 c14 c15 c16 cf
  obtain ⟨c0, c1, c2, c3, c4, c5, c6, c7, c8, c9, c10, c11, c12, c13, c14, c15, c16, cf⟩ := rsCells h4
  have hO := h4.swap.drew
  clear h4
  go_region_held3 (fun w' => w'.cell? ⟨k, 12, none⟩ = some (.int .i64 saw)) (go_keep) (first | (go_at_call 73; with_reducible refine Calls.mono (Hid.out (HC _ _ hO)) ?_; rintro e1 w7 ⟨rfl, hM⟩; obtain ⟨c0, c1, c2, c3, c4, c5, c6, c7, c8, c9, c10, c11, c12, c13, c14, c15, c16, cf⟩ := rsCells hM.swap))
  have HM := Lib.hid hM.swap
  clear hO HC hM
  have HF := Lib.hid HM.out
  clear HM
  go_wp2_with fail
  go_ret
  exact ⟨rfl, HF.out⟩
set_option maxHeartbeats 1000000 in
theorem rs2_any (hr : RsOk c nd li av) (hn : ws.length ≤ 1000000) (hl : lg.length < 1000000) (hi : av < ws.length) (n0 : 1 ≤ n) (n1 : n ≤ 1048576) (hk : kd ≠ 3)
    (h : Own w0 F0 (blk k (rsO c pp np cp pl nl cl kd nd n 2 saw er an) :: memA T m ws lg :: L) w) :
    Calls Try.prog 47 #[.pointer (some ⟨k, 0, none⟩), .pointer (some ⟨m, 0, none⟩)] w fun en w' => en = .returned (.bool true) ∧
      Own w0 F0 (blk k (rsO c pp np cp pl nl cl kd nd n 9 saw er an) :: memA T m (ws.set av (wrap64 (ws.getD av 0 + n))) (lg ++ [⟨2, av, n, wrap64 (ws.getD av 0 + n), false⟩]) :: L) w' := by
  have H1 := fun w => Lib.hid (rLimit_q (pp := pp) (np := np) (cp := cp) (pl := pl) (nl := nl) (cl := cl) c hr.hs nd hr.v0 hr.v1 w)
  have H2 := fun w => Lib.hid (rAvail_q (pp := pp) (np := np) (cp := cp) (pl := pl) (nl := nl) (cl := cl) c hr.hs nd hr.v0 hr.v1 w)
  rw [hr.p0] at H1
  rw [hr.p1] at H2
  have HC := fun L w h => Lib.hid (rAdd_any (w0 := w0) (F0 := F0) (T := T) (m := m) (ws := ws) (l := lg) (w := w) (L := L) av n hi hn hl h)
  have hkd : (kd == (3 : Int)) = false := by rw [beq_eq_false_iff_ne]; exact hk
  clear hl hn hi
  obtain ⟨c0, c1, c2, c3, c4, c5, c6, c7, c8, c9, c10, c11, c12, c13, c14, c15, c16, cf⟩ := rsCells h
  have hO := h.drew
  clear h hr
  go_enter Try.func47, Try.ntmps47
  go_wp2_with fail
  go_region_held3 (fun w' => w'.cell? ⟨k, 1, none⟩ = some (.int .i64 c.th) ∧ w'.cell? ⟨k, 2, none⟩ = some (.int .i64 c.st) ∧ w'.cell? ⟨k, 3, none⟩ = some (.int .i64 c.ga) ∧ w'.cell? ⟨k, 4, none⟩ = some (.int .i64 c.le) ∧ w'.cell? ⟨k, 5, none⟩ = some (.int .i64 c.re) ∧ w'.cell? ⟨k, 6, none⟩ = some (.int .i64 c.ti) ∧ w'.cell? ⟨k, 7, none⟩ = some (.slice pp np cp) ∧ w'.cell? ⟨k, 8, none⟩ = some (.slice pl nl cl) ∧ w'.cell? ⟨k, 9, none⟩ = some (.int .i64 nd)) (go_keep) (first | (go_at_call 30; refine (H1 _).out.mono ?_; rintro e1 w1 ⟨rfl, hB⟩; have hO1 := Own.below (by with_reducible assumption) hB; obtain ⟨c0, c1, c2, c3, c4, c5, c6, c7, c8, c9, c10, c11, c12, c13, c14, c15, c16, cf⟩ := rsCells hO1))
  clear hB
  have hO2 := hO1.drew
  go_wp2_with fail
  go_region_held3 (fun w' => w'.cell? ⟨k, 1, none⟩ = some (.int .i64 c.th) ∧ w'.cell? ⟨k, 2, none⟩ = some (.int .i64 c.st) ∧ w'.cell? ⟨k, 3, none⟩ = some (.int .i64 c.ga) ∧ w'.cell? ⟨k, 4, none⟩ = some (.int .i64 c.le) ∧ w'.cell? ⟨k, 5, none⟩ = some (.int .i64 c.re) ∧ w'.cell? ⟨k, 6, none⟩ = some (.int .i64 c.ti) ∧ w'.cell? ⟨k, 7, none⟩ = some (.slice pp np cp) ∧ w'.cell? ⟨k, 8, none⟩ = some (.slice pl nl cl) ∧ w'.cell? ⟨k, 9, none⟩ = some (.int .i64 nd)) (go_keep) (first | (go_at_call 31; refine (H2 _).out.mono ?_; rintro e1 w2 ⟨rfl, hB⟩; have hO3 := Own.below (by with_reducible assumption) hB; obtain ⟨c0, c1, c2, c3, c4, c5, c6, c7, c8, c9, c10, c11, c12, c13, c14, c15, c16, cf⟩ := rsCells hO3))
  clear hB hO hO1 hO2
  have HO := Lib.hid hO3
  clear hO3 H1 H2
  have H3 := HC _ _ HO.out.swap
  clear HC HO
  go_wp2_with fail
  refine H3.out.mono ?_
  rintro e1 w5 ⟨rfl, hM⟩
  clear c0 c1 c2 c3 c4 c5 c6 c7 c8 c9 c10 c11 c12 c13 c14 c15 c16 cf
  obtain ⟨c0, c1, c2, c3, c4, c5, c6, c7, c8, c9, c10, c11, c12, c13, c14, c15, c16, cf⟩ := rsCells hM.swap
  have HM := Lib.hid hM.swap
  clear H3 hM
  have HF := Lib.hid (HM.out.set 11 (.int .i64 9))
  clear HM
  go_wp2_with fail
  go_ret
  exact ⟨rfl, HF.out⟩
set_option maxHeartbeats 1000000 in
theorem rs32_any (hr : RsOk c nd li av) (hn : ws.length ≤ 1000000) (hl : lg.length < 1000000) (hi : li < ws.length) (n0 : 1 ≤ n) (n1 : n ≤ 1048576) (hb : bb = -n)
    (h : Own w0 F0 (blk k (rsO c pp np cp pl nl cl 3 nd n 2 saw er an) :: memA T m ws lg :: L) w) :
    Calls Try.prog 47 #[.pointer (some ⟨k, 0, none⟩), .pointer (some ⟨m, 0, none⟩)] w fun en w' => en = .returned (.bool true) ∧
      Own w0 F0 (blk k (rsO c pp np cp pl nl cl 3 nd n 9 saw er an) :: memA T m (ws.set li (wrap64 (ws.getD li 0 + bb))) (lg ++ [⟨2, li, bb, wrap64 (ws.getD li 0 + bb), false⟩]) :: L) w' := by
  have H1 := fun w => Lib.hid (rLimit_q (pp := pp) (np := np) (cp := cp) (pl := pl) (nl := nl) (cl := cl) c hr.hs nd hr.v0 hr.v1 w)
  have H2 := fun w => Lib.hid (rAvail_q (pp := pp) (np := np) (cp := cp) (pl := pl) (nl := nl) (cl := cl) c hr.hs nd hr.v0 hr.v1 w)
  rw [hr.p0] at H1
  rw [hr.p1] at H2
  have HC := fun L w h => Lib.hid (rAdd_any (w0 := w0) (F0 := F0) (T := T) (m := m) (ws := ws) (l := lg) (w := w) (L := L) li bb hi hn hl h)
  have hwn : IntKind.i64.wrap (-n) = bb := by rw [hb]; exact IntWalk.i64_in _ (by omega)
  have hwn2 : -n = bb := hb.symm
  have Hb := Lib.hid hb
  clear hb
  clear hl hn hi
  obtain ⟨c0, c1, c2, c3, c4, c5, c6, c7, c8, c9, c10, c11, c12, c13, c14, c15, c16, cf⟩ := rsCells h
  have hO := h.drew
  clear h hr
  go_enter Try.func47, Try.ntmps47
  go_wp2_with fail
  go_region_held3 (fun w' => w'.cell? ⟨k, 1, none⟩ = some (.int .i64 c.th) ∧ w'.cell? ⟨k, 2, none⟩ = some (.int .i64 c.st) ∧ w'.cell? ⟨k, 3, none⟩ = some (.int .i64 c.ga) ∧ w'.cell? ⟨k, 4, none⟩ = some (.int .i64 c.le) ∧ w'.cell? ⟨k, 5, none⟩ = some (.int .i64 c.re) ∧ w'.cell? ⟨k, 6, none⟩ = some (.int .i64 c.ti) ∧ w'.cell? ⟨k, 7, none⟩ = some (.slice pp np cp) ∧ w'.cell? ⟨k, 8, none⟩ = some (.slice pl nl cl) ∧ w'.cell? ⟨k, 9, none⟩ = some (.int .i64 nd)) (go_keep) (first | (go_at_call 30; refine (H1 _).out.mono ?_; rintro e1 w1 ⟨rfl, hB⟩; have hO1 := Own.below (by with_reducible assumption) hB; obtain ⟨c0, c1, c2, c3, c4, c5, c6, c7, c8, c9, c10, c11, c12, c13, c14, c15, c16, cf⟩ := rsCells hO1))
  clear hB
  have hO2 := hO1.drew
  go_wp2_with fail
  go_region_held3 (fun w' => w'.cell? ⟨k, 1, none⟩ = some (.int .i64 c.th) ∧ w'.cell? ⟨k, 2, none⟩ = some (.int .i64 c.st) ∧ w'.cell? ⟨k, 3, none⟩ = some (.int .i64 c.ga) ∧ w'.cell? ⟨k, 4, none⟩ = some (.int .i64 c.le) ∧ w'.cell? ⟨k, 5, none⟩ = some (.int .i64 c.re) ∧ w'.cell? ⟨k, 6, none⟩ = some (.int .i64 c.ti) ∧ w'.cell? ⟨k, 7, none⟩ = some (.slice pp np cp) ∧ w'.cell? ⟨k, 8, none⟩ = some (.slice pl nl cl) ∧ w'.cell? ⟨k, 9, none⟩ = some (.int .i64 nd)) (go_keep) (first | (go_at_call 31; refine (H2 _).out.mono ?_; rintro e1 w2 ⟨rfl, hB⟩; have hO3 := Own.below (by with_reducible assumption) hB; obtain ⟨c0, c1, c2, c3, c4, c5, c6, c7, c8, c9, c10, c11, c12, c13, c14, c15, c16, cf⟩ := rsCells hO3))
  clear hB hO hO1 hO2
  have hO4 := hO3.drew
  clear hO3
  go_wp2_with fail
  go_region_held3 (fun w' => w'.cell? ⟨k, 1, none⟩ = some (.int .i64 c.th) ∧ w'.cell? ⟨k, 2, none⟩ = some (.int .i64 c.st) ∧ w'.cell? ⟨k, 3, none⟩ = some (.int .i64 c.ga) ∧ w'.cell? ⟨k, 4, none⟩ = some (.int .i64 c.le) ∧ w'.cell? ⟨k, 5, none⟩ = some (.int .i64 c.re) ∧ w'.cell? ⟨k, 6, none⟩ = some (.int .i64 c.ti) ∧ w'.cell? ⟨k, 7, none⟩ = some (.slice pp np cp) ∧ w'.cell? ⟨k, 8, none⟩ = some (.slice pl nl cl) ∧ w'.cell? ⟨k, 9, none⟩ = some (.int .i64 nd)) (go_keep) (first | (go_at_call 31; refine (H2 _).out.mono ?_; rintro e1 w3 ⟨rfl, hB⟩; have hO5 := Own.below (by with_reducible assumption) hB; obtain ⟨c0, c1, c2, c3, c4, c5, c6, c7, c8, c9, c10, c11, c12, c13, c14, c15, c16, cf⟩ := rsCells hO5))
  clear hB hO4
  have hO6 := hO5.drew
  clear hO5
  go_wp2_with fail
  go_region_held3 (fun w' => w'.cell? ⟨k, 1, none⟩ = some (.int .i64 c.th) ∧ w'.cell? ⟨k, 2, none⟩ = some (.int .i64 c.st) ∧ w'.cell? ⟨k, 3, none⟩ = some (.int .i64 c.ga) ∧ w'.cell? ⟨k, 4, none⟩ = some (.int .i64 c.le) ∧ w'.cell? ⟨k, 5, none⟩ = some (.int .i64 c.re) ∧ w'.cell? ⟨k, 6, none⟩ = some (.int .i64 c.ti) ∧ w'.cell? ⟨k, 7, none⟩ = some (.slice pp np cp) ∧ w'.cell? ⟨k, 8, none⟩ = some (.slice pl nl cl) ∧ w'.cell? ⟨k, 9, none⟩ = some (.int .i64 nd)) (go_keep) (first | (go_at_call 30; refine (H1 _).out.mono ?_; rintro e1 w4 ⟨rfl, hB⟩; have hO7 := Own.below (by with_reducible assumption) hB; obtain ⟨c0, c1, c2, c3, c4, c5, c6, c7, c8, c9, c10, c11, c12, c13, c14, c15, c16, cf⟩ := rsCells hO7))
  clear hB hO6 H1 H2
  have HO := Lib.hid hO7
  clear hO7
  have H3 := HC _ _ HO.out.swap
  clear HC HO
  go_wp2_with fail
  refine H3.out.mono ?_
  rintro e1 w5 ⟨rfl, hM⟩
  clear c0 c1 c2 c3 c4 c5 c6 c7 c8 c9 c10 c11 c12 c13 c14 c15 c16 cf
  obtain ⟨c0, c1, c2, c3, c4, c5, c6, c7, c8, c9, c10, c11, c12, c13, c14, c15, c16, cf⟩ := rsCells hM.swap
  have HM := Lib.hid hM.swap
  clear H3 hM
  have HF := Lib.hid (HM.out.set 11 (.int .i64 9))
  clear HM
  go_wp2_with fail
  go_ret
  exact ⟨rfl, HF.out⟩
set_option maxHeartbeats 1000000 in
theorem rs9_any (hr : RsOk c nd li av) (hn : ws.length ≤ 1000000) (hl : lg.length < 1000000)  (hk : kd ≠ 3)
    (h : Own w0 F0 (blk k (rsO c pp np cp pl nl cl kd nd n 9 saw er an) :: memA T m ws lg :: L) w) :
    Calls Try.prog 47 #[.pointer (some ⟨k, 0, none⟩), .pointer (some ⟨m, 0, none⟩)] w fun en w' => en = .returned (.bool true) ∧
      Own w0 F0 (blk k (rsO c pp np cp pl nl cl kd nd n 9 saw er an) :: memA T m ws lg :: L) w' := by
  have H1 := fun w => Lib.hid (rLimit_q (pp := pp) (np := np) (cp := cp) (pl := pl) (nl := nl) (cl := cl) c hr.hs nd hr.v0 hr.v1 w)
  have H2 := fun w => Lib.hid (rAvail_q (pp := pp) (np := np) (cp := cp) (pl := pl) (nl := nl) (cl := cl) c hr.hs nd hr.v0 hr.v1 w)
  rw [hr.p0] at H1
  rw [hr.p1] at H2
  have hkd : (kd == (3 : Int)) = false := by rw [beq_eq_false_iff_ne]; exact hk
  obtain ⟨c0, c1, c2, c3, c4, c5, c6, c7, c8, c9, c10, c11, c12, c13, c14, c15, c16, cf⟩ := rsCells h
  have hO := h.drew
  clear h hr
  go_enter Try.func47, Try.ntmps47
  go_wp2_with fail
  go_region_held3 (fun w' => w'.cell? ⟨k, 1, none⟩ = some (.int .i64 c.th) ∧ w'.cell? ⟨k, 2, none⟩ = some (.int .i64 c.st) ∧ w'.cell? ⟨k, 3, none⟩ = some (.int .i64 c.ga) ∧ w'.cell? ⟨k, 4, none⟩ = some (.int .i64 c.le) ∧ w'.cell? ⟨k, 5, none⟩ = some (.int .i64 c.re) ∧ w'.cell? ⟨k, 6, none⟩ = some (.int .i64 c.ti) ∧ w'.cell? ⟨k, 7, none⟩ = some (.slice pp np cp) ∧ w'.cell? ⟨k, 8, none⟩ = some (.slice pl nl cl) ∧ w'.cell? ⟨k, 9, none⟩ = some (.int .i64 nd)) (go_keep) (first | (go_at_call 30; refine (H1 _).out.mono ?_; rintro e1 w1 ⟨rfl, hB⟩; have hO1 := Own.below (by with_reducible assumption) hB; obtain ⟨c0, c1, c2, c3, c4, c5, c6, c7, c8, c9, c10, c11, c12, c13, c14, c15, c16, cf⟩ := rsCells hO1))
  clear hB
  have hO2 := hO1.drew
  go_wp2_with fail
  go_region_held3 (fun w' => w'.cell? ⟨k, 1, none⟩ = some (.int .i64 c.th) ∧ w'.cell? ⟨k, 2, none⟩ = some (.int .i64 c.st) ∧ w'.cell? ⟨k, 3, none⟩ = some (.int .i64 c.ga) ∧ w'.cell? ⟨k, 4, none⟩ = some (.int .i64 c.le) ∧ w'.cell? ⟨k, 5, none⟩ = some (.int .i64 c.re) ∧ w'.cell? ⟨k, 6, none⟩ = some (.int .i64 c.ti) ∧ w'.cell? ⟨k, 7, none⟩ = some (.slice pp np cp) ∧ w'.cell? ⟨k, 8, none⟩ = some (.slice pl nl cl) ∧ w'.cell? ⟨k, 9, none⟩ = some (.int .i64 nd)) (go_keep) (first | (go_at_call 31; refine (H2 _).out.mono ?_; rintro e1 w2 ⟨rfl, hB⟩; have hO3 := Own.below (by with_reducible assumption) hB; obtain ⟨c0, c1, c2, c3, c4, c5, c6, c7, c8, c9, c10, c11, c12, c13, c14, c15, c16, cf⟩ := rsCells hO3))
  clear hB hO hO1 hO2
  have HO := Lib.hid hO3
  clear hO3 H1 H2
  go_wp2_with fail
  go_ret
  exact ⟨rfl, HO.out⟩
set_option maxHeartbeats 1000000 in
theorem rs39_any (hr : RsOk c nd li av) (hn : ws.length ≤ 1000000) (hl : lg.length < 1000000)  (n0 : 1 ≤ n) (n1 : n ≤ 1048576) (hb : bb = -n)
    (h : Own w0 F0 (blk k (rsO c pp np cp pl nl cl 3 nd n 9 saw er an) :: memA T m ws lg :: L) w) :
    Calls Try.prog 47 #[.pointer (some ⟨k, 0, none⟩), .pointer (some ⟨m, 0, none⟩)] w fun en w' => en = .returned (.bool true) ∧
      Own w0 F0 (blk k (rsO c pp np cp pl nl cl 3 nd n 9 saw er an) :: memA T m ws lg :: L) w' := by
  have H1 := fun w => Lib.hid (rLimit_q (pp := pp) (np := np) (cp := cp) (pl := pl) (nl := nl) (cl := cl) c hr.hs nd hr.v0 hr.v1 w)
  have H2 := fun w => Lib.hid (rAvail_q (pp := pp) (np := np) (cp := cp) (pl := pl) (nl := nl) (cl := cl) c hr.hs nd hr.v0 hr.v1 w)
  rw [hr.p0] at H1
  rw [hr.p1] at H2
  have hwn : IntKind.i64.wrap (-n) = bb := by rw [hb]; exact IntWalk.i64_in _ (by omega)
  have hwn2 : -n = bb := hb.symm
  have Hb := Lib.hid hb
  clear hb
  obtain ⟨c0, c1, c2, c3, c4, c5, c6, c7, c8, c9, c10, c11, c12, c13, c14, c15, c16, cf⟩ := rsCells h
  have hO := h.drew
  clear h hr
  go_enter Try.func47, Try.ntmps47
  go_wp2_with fail
  go_region_held3 (fun w' => w'.cell? ⟨k, 1, none⟩ = some (.int .i64 c.th) ∧ w'.cell? ⟨k, 2, none⟩ = some (.int .i64 c.st) ∧ w'.cell? ⟨k, 3, none⟩ = some (.int .i64 c.ga) ∧ w'.cell? ⟨k, 4, none⟩ = some (.int .i64 c.le) ∧ w'.cell? ⟨k, 5, none⟩ = some (.int .i64 c.re) ∧ w'.cell? ⟨k, 6, none⟩ = some (.int .i64 c.ti) ∧ w'.cell? ⟨k, 7, none⟩ = some (.slice pp np cp) ∧ w'.cell? ⟨k, 8, none⟩ = some (.slice pl nl cl) ∧ w'.cell? ⟨k, 9, none⟩ = some (.int .i64 nd)) (go_keep) (first | (go_at_call 30; refine (H1 _).out.mono ?_; rintro e1 w1 ⟨rfl, hB⟩; have hO1 := Own.below (by with_reducible assumption) hB; obtain ⟨c0, c1, c2, c3, c4, c5, c6, c7, c8, c9, c10, c11, c12, c13, c14, c15, c16, cf⟩ := rsCells hO1))
  clear hB
  have hO2 := hO1.drew
  go_wp2_with fail
  go_region_held3 (fun w' => w'.cell? ⟨k, 1, none⟩ = some (.int .i64 c.th) ∧ w'.cell? ⟨k, 2, none⟩ = some (.int .i64 c.st) ∧ w'.cell? ⟨k, 3, none⟩ = some (.int .i64 c.ga) ∧ w'.cell? ⟨k, 4, none⟩ = some (.int .i64 c.le) ∧ w'.cell? ⟨k, 5, none⟩ = some (.int .i64 c.re) ∧ w'.cell? ⟨k, 6, none⟩ = some (.int .i64 c.ti) ∧ w'.cell? ⟨k, 7, none⟩ = some (.slice pp np cp) ∧ w'.cell? ⟨k, 8, none⟩ = some (.slice pl nl cl) ∧ w'.cell? ⟨k, 9, none⟩ = some (.int .i64 nd)) (go_keep) (first | (go_at_call 31; refine (H2 _).out.mono ?_; rintro e1 w2 ⟨rfl, hB⟩; have hO3 := Own.below (by with_reducible assumption) hB; obtain ⟨c0, c1, c2, c3, c4, c5, c6, c7, c8, c9, c10, c11, c12, c13, c14, c15, c16, cf⟩ := rsCells hO3))
  clear hB hO hO1 hO2
  have hO4 := hO3.drew
  clear hO3
  go_wp2_with fail
  go_region_held3 (fun w' => w'.cell? ⟨k, 1, none⟩ = some (.int .i64 c.th) ∧ w'.cell? ⟨k, 2, none⟩ = some (.int .i64 c.st) ∧ w'.cell? ⟨k, 3, none⟩ = some (.int .i64 c.ga) ∧ w'.cell? ⟨k, 4, none⟩ = some (.int .i64 c.le) ∧ w'.cell? ⟨k, 5, none⟩ = some (.int .i64 c.re) ∧ w'.cell? ⟨k, 6, none⟩ = some (.int .i64 c.ti) ∧ w'.cell? ⟨k, 7, none⟩ = some (.slice pp np cp) ∧ w'.cell? ⟨k, 8, none⟩ = some (.slice pl nl cl) ∧ w'.cell? ⟨k, 9, none⟩ = some (.int .i64 nd)) (go_keep) (first | (go_at_call 31; refine (H2 _).out.mono ?_; rintro e1 w3 ⟨rfl, hB⟩; have hO5 := Own.below (by with_reducible assumption) hB; obtain ⟨c0, c1, c2, c3, c4, c5, c6, c7, c8, c9, c10, c11, c12, c13, c14, c15, c16, cf⟩ := rsCells hO5))
  clear hB hO4
  have hO6 := hO5.drew
  clear hO5
  go_wp2_with fail
  go_region_held3 (fun w' => w'.cell? ⟨k, 1, none⟩ = some (.int .i64 c.th) ∧ w'.cell? ⟨k, 2, none⟩ = some (.int .i64 c.st) ∧ w'.cell? ⟨k, 3, none⟩ = some (.int .i64 c.ga) ∧ w'.cell? ⟨k, 4, none⟩ = some (.int .i64 c.le) ∧ w'.cell? ⟨k, 5, none⟩ = some (.int .i64 c.re) ∧ w'.cell? ⟨k, 6, none⟩ = some (.int .i64 c.ti) ∧ w'.cell? ⟨k, 7, none⟩ = some (.slice pp np cp) ∧ w'.cell? ⟨k, 8, none⟩ = some (.slice pl nl cl) ∧ w'.cell? ⟨k, 9, none⟩ = some (.int .i64 nd)) (go_keep) (first | (go_at_call 30; refine (H1 _).out.mono ?_; rintro e1 w4 ⟨rfl, hB⟩; have hO7 := Own.below (by with_reducible assumption) hB; obtain ⟨c0, c1, c2, c3, c4, c5, c6, c7, c8, c9, c10, c11, c12, c13, c14, c15, c16, cf⟩ := rsCells hO7))
  clear hB hO6 H1 H2
  have HO := Lib.hid hO7
  clear hO7
  go_wp2_with fail
  go_ret
  exact ⟨rfl, HO.out⟩
end
end Go.Proofs.Ytlkiadionpnijaa
