/- Texts of elder layers, one behind the other: ClaimRef. -/
import Derived.Test.YtlpdafldabfiaaaGreatC24
import Derived.Test.YtlpdafldabfiaaaGreatC32
import Derived.Deep.RegionHeld3
import Derived.Deep.QuietTactic
import Derived.BigQuiet
import Derived.StillTailTactics
section
namespace Go.Proofs.YtlpdafldabfiaaaGreat
section
open Go.ChangeShapes Go.WideShapes Go.ChangeAt Go.RowKit Go.Shelf
set_option linter.unusedVariables false
set_option linter.unusedSimpArgs false
set_option maxRecDepth 100000
variable {w0 w w' : World} {F0 : Nat → Prop} {L : List Asn} {T : TypeId} {m : Nat} {ws : List Int} {lg : List Acc}
def rcO (c : Cf) (pp : Option Addr) (np cp : Nat) (pl : Option Addr) (nl cl : Nat) (st j : Int) (seen : Bool) (saw put : Int) (fin : Bool) (er nn : Int) : Obj := .cells #[.int .i64 c.th, .int .i64 c.st, .int .i64 c.ga, .int .i64 c.le, .int .i64 c.re, .int .i64 c.ti, .slice pp np cp, .slice pl nl cl, .int .i64 st, .int .i64 j, .bool seen, .int .i64 saw, .int .i64 put, .bool fin, .int .i64 er, .int .i64 nn, .bool false, .int .i64 0] 148 (0, 0)
theorem rcCells {k : Nat} {c : Cf} {pp pl : Option Addr} {np cp nl cl : Nat} {st j : Int} {seen : Bool} {saw put : Int} {fin : Bool} {er nn : Int} (h : Own w0 F0 (blk k (rcO c pp np cp pl nl cl st j seen saw put fin er nn) :: L) w) :
    w.cell? ⟨k, 0, none⟩ = some (.int .i64 c.th) ∧ w.cell? ⟨k, 1, none⟩ = some (.int .i64 c.st) ∧ w.cell? ⟨k, 2, none⟩ = some (.int .i64 c.ga) ∧ w.cell? ⟨k, 3, none⟩ = some (.int .i64 c.le) ∧ w.cell? ⟨k, 4, none⟩ = some (.int .i64 c.re) ∧ w.cell? ⟨k, 5, none⟩ = some (.int .i64 c.ti) ∧ w.cell? ⟨k, 6, none⟩ = some (.slice pp np cp) ∧ w.cell? ⟨k, 7, none⟩ = some (.slice pl nl cl) ∧ w.cell? ⟨k, 8, none⟩ = some (.int .i64 st) ∧ w.cell? ⟨k, 9, none⟩ = some (.int .i64 j) ∧ w.cell? ⟨k, 10, none⟩ = some (.bool seen) ∧ w.cell? ⟨k, 11, none⟩ = some (.int .i64 saw) ∧ w.cell? ⟨k, 12, none⟩ = some (.int .i64 put) ∧ w.cell? ⟨k, 13, none⟩ = some (.bool fin) ∧ w.cell? ⟨k, 14, none⟩ = some (.int .i64 er) ∧ w.cell? ⟨k, 15, none⟩ = some (.int .i64 nn) ∧ w.cell? ⟨k, 16, none⟩ = some (.bool false) ∧ w.cell? ⟨k, 17, none⟩ = some (.int .i64 0) ∧ ∀ j, w.frozen? ⟨k, j, none⟩ = false :=
  ⟨h.cell (i := 0) rfl, h.cell (i := 1) rfl, h.cell (i := 2) rfl, h.cell (i := 3) rfl, h.cell (i := 4) rfl, h.cell (i := 5) rfl, h.cell (i := 6) rfl, h.cell (i := 7) rfl, h.cell (i := 8) rfl, h.cell (i := 9) rfl, h.cell (i := 10) rfl, h.cell (i := 11) rfl, h.cell (i := 12) rfl, h.cell (i := 13) rfl, h.cell (i := 14) rfl, h.cell (i := 15) rfl, h.cell (i := 16) rfl, h.cell (i := 17) rfl, fun j => h.unfrozen⟩
structure RcOk (c : Cf) (np : Nat) (p : CP) : Prop where
  hs : Sm c
  np12 : np ≤ 12
  tk : lim c np = (p.tk : Int)
  ti : c.ti = (p.ti : Int)
theorem rLoad_z11 (i : Nat) (y : Int) (hy : ws.getD i 0 = y) (hi : i < ws.length) (hl : lg.length < 1000000) (h : Own w0 F0 (memA T m ws lg :: L) w) :
    Calls Tryz.prog 105 #[.pointer (some ⟨m, 0, none⟩), .int .i64 i] w fun en w' =>
      en = .returned (.int .i64 y) ∧ Own w0 F0 (memA T m ws (lg ++ [⟨1, i, y, 0, false⟩]) :: L) w' := by
  subst hy; exact rLoad_any i hi hl h
section
variable {k : Nat} {c : Cf} {pp pl : Option Addr} {np cp nl cl : Nat} {st saw put er nn : Int} {fin : Bool} {p : CP}

theorem rcNext_more (sn : Bool) (j ti : Int) (j0 : 0 ≤ j) (j1 : j ≤ 100) (hti : c.ti = ti) (hc : j + 1 ≠ ti) (h : Own w0 F0 (blk k (rcO c pp np cp pl nl cl st j sn saw 0 false 0 0) :: L) w) :
    Calls Tryz.prog 113 #[.pointer (some ⟨k, 0, none⟩)] w fun en w' => en = .returned (.tuple #[]) ∧ Own w0 F0 (blk k (rcO c pp np cp pl nl cl st (j + 1) false saw 0 false 0 0) :: L) w' := by
  have hd : (j + 1 == ti) = false := by simp; omega
  obtain ⟨c0, c1, c2, c3, c4, c5, c6, c7, c8, c9, c10, c11, c12, c13, c14, c15, c16, c17, cf⟩ := rcCells h
  rw [hti] at c5
  have H2 := Lib.hid ((h.set 9 (.int .i64 (j + 1))).set 10 (.bool false))
  clear h hc
  go_enter Tryz.func113, Tryz.ntmps113
  go_wp2_with fail
  have h2 : Own w0 F0 (blk k (rcO c pp np cp pl nl cl st (j + 1) false saw 0 false 0 0) :: L) _ := H2.out
  generalize World.setCell _ _ _ = w2 at h2 ⊢
  clear c0 c1 c2 c3 c4 c5 c6 c7 c8 c9 c10 c11 c12 c13 c14 c15 c16 c17 cf H2
  obtain ⟨c0, c1, c2, c3, c4, c5, c6, c7, c8, c9, c10, c11, c12, c13, c14, c15, c16, c17, cf⟩ := rcCells h2
  rw [hti] at c5
  have HQ := Lib.hid (fun q => h2.drewN q)
  clear h2
  go_quiet (fail)
  have h3 := HQ.out nq
  have H3 := Lib.hid h3
  clear HQ c0 c1 c2 c3 c4 c5 c6 c7 c8 c9 c10 c11 c12 c13 c14 c15 c16 c17 cf
  generalize World.drewN w2 nq = w3 at *
  obtain ⟨c0, c1, c2, c3, c4, c5, c6, c7, c8, c9, c10, c11, c12, c13, c14, c15, c16, c17, cf⟩ := rcCells h3
  clear h3
  go_wp2_with fail
  go_end0
  exact ⟨rfl, H3.out⟩

theorem rcNext_end (sn : Bool) (j ti : Int) (j0 : 0 ≤ j) (j1 : j ≤ 100) (hti : c.ti = ti) (hc : j + 1 = ti) (h : Own w0 F0 (blk k (rcO c pp np cp pl nl cl st j sn saw 0 false 0 0) :: L) w) :
    Calls Tryz.prog 113 #[.pointer (some ⟨k, 0, none⟩)] w fun en w' => en = .returned (.tuple #[]) ∧ Own w0 F0 (blk k (rcO c pp np cp pl nl cl st (j + 1) false saw 0 true 3 0) :: L) w' := by
  have hd : (j + 1 == ti) = true := by simp; omega
  obtain ⟨c0, c1, c2, c3, c4, c5, c6, c7, c8, c9, c10, c11, c12, c13, c14, c15, c16, c17, cf⟩ := rcCells h
  rw [hti] at c5
  have H2 := Lib.hid ((h.set 9 (.int .i64 (j + 1))).set 10 (.bool false))
  clear h hc
  go_enter Tryz.func113, Tryz.ntmps113
  go_wp2_with fail
  have h2 : Own w0 F0 (blk k (rcO c pp np cp pl nl cl st (j + 1) false saw 0 false 0 0) :: L) _ := H2.out
  generalize World.setCell _ _ _ = w2 at h2 ⊢
  clear c0 c1 c2 c3 c4 c5 c6 c7 c8 c9 c10 c11 c12 c13 c14 c15 c16 c17 cf H2
  obtain ⟨c0, c1, c2, c3, c4, c5, c6, c7, c8, c9, c10, c11, c12, c13, c14, c15, c16, c17, cf⟩ := rcCells h2
  rw [hti] at c5
  have HQ := Lib.hid (fun q => h2.drewN q)
  clear h2
  go_quiet (fail)
  have h3 := HQ.out nq
  have H3 := Lib.hid h3
  clear HQ c0 c1 c2 c3 c4 c5 c6 c7 c8 c9 c10 c11 c12 c13 c14 c15 c16 c17 cf
  generalize World.drewN w2 nq = w3 at *
  obtain ⟨c0, c1, c2, c3, c4, c5, c6, c7, c8, c9, c10, c11, c12, c13, c14, c15, c16, c17, cf⟩ := rcCells h3
  clear h3
  go_wp2_with fail
  go_end0
  exact ⟨rfl, (((((H3.out.set 14 (.int .i64 3)).set 15 (.int .i64 0)).set 16 (.bool false)).set 17 (.int .i64 0)).set 13 (.bool true))⟩

theorem rc9_any (r : Value) {j : Int} {seen : Bool} (h : Own w0 F0 (blk k (rcO c pp np cp pl nl cl st j seen saw put true er nn) :: L) w) :
    Calls Tryz.prog 75 #[.pointer (some ⟨k, 0, none⟩), r] w fun en w' => en = .returned (.bool true) ∧ w = w' := by
  obtain ⟨c0, c1, c2, c3, c4, c5, c6, c7, c8, c9, c10, c11, c12, c13, c14, c15, c16, c17, cf⟩ := rcCells h
  clear h
  go_enter Tryz.func75, Tryz.ntmps75
  go_wp2_with fail
  go_ret
  exact ⟨rfl, rfl⟩

set_option maxHeartbeats 2000000 in
theorem rcLoad_free (j : Nat) (hr : RcOk c np p) (hp : p.Ok) (hj : j < p.ti) (hn : ws.length ≤ 1000000) (hl : lg.length < 1000000) (hi : p.wd j < ws.length) (y : Int) (hy : ws.getD (p.wd j) 0 = y) (hI : I64 y) (hc : stS y = 0)
    (h : Own w0 F0 (blk k (rcO c pp np cp pl nl cl p.st j false saw 0 false 0 0) :: memA T m ws lg :: L) w) :
    Calls Tryz.prog 75 #[.pointer (some ⟨k, 0, none⟩), .pointer (some ⟨m, 0, none⟩)] w fun en w' => en = .returned (.bool false) ∧
      Own w0 F0 (blk k (rcO c pp np cp pl nl cl p.st j true y 0 false 0 0) :: memA T m ws (lg ++ [⟨1, (p.wd j : Nat), y, 0, false⟩]) :: L) w' := by
  have HT := fun w => Lib.hid (rTicket_q (pp := pp) (np := np) (cp := cp) (pl := pl) (nl := nl) (cl := cl) c hr.hs hr.np12 (p.tic j) (by omega) (by have := tic_lt hp j; have := hp.t16; omega) w)
  rw [show lim c np + 2 * ((p.tic j : Nat) : Int) = ((p.wd j : Nat) : Int) by rw [hr.tk]; unfold CP.wd; omega] at HT
  have s0 : (0 : Int) ≤ (p.st : Int) + j := by omega
  have s1 := hp.s1
  have t1 := hp.t1
  have t16 := hp.t16
  have hwr : IntKind.i64.wrap ((p.st : Int) + (j : Int)) = (p.st : Int) + (j : Int) := IntWalk.i64_in _ (by omega)
  have htm : ((p.st : Int) + (j : Int)).tmod (p.ti : Int) = ((p.tic j : Nat) : Int) := by
    rw [Int.tmod_eq_emod_of_nonneg s0]; unfold CP.tic; rw [Int.natCast_emod, Int.natCast_add]
  have hz : ((p.ti : Int) == 0) = false := by simp; omega
  have hz2 : ¬ (p.ti : Int) = 0 := by omega
  have hti := hr.ti
  have hwd := hi
  have HL := fun L w h => Lib.hid (rLoad_z11 (w0 := w0) (F0 := F0) (L := L) (T := T) (m := m) (ws := ws) (lg := lg) (w := w) (p.wd j) y hy hi hl h)
  have HS := fun w => Lib.hid (rState_any y hI w)
  rw [hc] at HS
  clear hc hI hy
  obtain ⟨c0, c1, c2, c3, c4, c5, c6, c7, c8, c9, c10, c11, c12, c13, c14, c15, c16, c17, cf⟩ := rcCells h
  rw [hti] at c5
  have HQ := Lib.hid (fun q => h.drewN q)
  have Hti := Lib.hid hti
  clear h hl hn hi hr hp hj hti hwd s0 s1
  generalize hW : p.wd j = W at *
  generalize hK : p.tic j = K at *
  clear hW hK
  generalize (p.st : Int) = S0 at *
  generalize p.ti = TI at *
  go_enter Tryz.func75, Tryz.ntmps75
  go_wp2_with fail
  go_quiet (fail)
  have h3 := HQ.out nq
  have H3 := Lib.hid h3
  clear HQ c0 c1 c2 c3 c4 c5 c6 c7 c8 c9 c10 c11 c12 c13 c14 c15 c16 c17 cf
  generalize World.drewN w nq = w3 at *
  obtain ⟨c0, c1, c2, c3, c4, c5, c6, c7, c8, c9, c10, c11, c12, c13, c14, c15, c16, c17, cf⟩ := rcCells h3
  rw [Hti.out] at c5
  clear h3
  go_wp2_with fail
  rw [← Hti.out]
  refine (HT _).out.mono ?_
  rintro e1 w4 ⟨rfl, hB⟩
  have h5 := H3.out.below hB
  clear H3 hB c0 c1 c2 c3 c4 c5 c6 c7 c8 c9 c10 c11 c12 c13 c14 c15 c16 c17 cf
  obtain ⟨c0, c1, c2, c3, c4, c5, c6, c7, c8, c9, c10, c11, c12, c13, c14, c15, c16, c17, cf⟩ := rcCells h5
  rw [Hti.out] at c5
  have HLd := HL _ _ h5.swap
  clear h5 HL
  rw [Hti.out]
  go_wp2_with fail
  refine HLd.out.mono ?_
  rintro e1 w5 ⟨rfl, hM⟩
  have hM := hM.swap
  clear HLd c0 c1 c2 c3 c4 c5 c6 c7 c8 c9 c10 c11 c12 c13 c14 c15 c16 c17 cf
  obtain ⟨c0, c1, c2, c3, c4, c5, c6, c7, c8, c9, c10, c11, c12, c13, c14, c15, c16, c17, cf⟩ := rcCells hM
  rw [Hti.out] at c5
  have H6 := Lib.hid ((hM.set 11 (.int .i64 y)).set 10 (.bool true))
  clear hM
  go_wp2_with fail
  have h7 : Own w0 F0 (blk k (rcO c pp np cp pl nl cl S0 j true y 0 false 0 0) :: memA T m ws (lg ++ [⟨1, W, y, 0, false⟩]) :: L) _ := H6.out
  generalize World.setCell _ _ _ = w7 at h7 ⊢
  clear H6 c0 c1 c2 c3 c4 c5 c6 c7 c8 c9 c10 c11 c12 c13 c14 c15 c16 c17 cf
  obtain ⟨c0, c1, c2, c3, c4, c5, c6, c7, c8, c9, c10, c11, c12, c13, c14, c15, c16, c17, cf⟩ := rcCells h7
  rw [Hti.out] at c5
  have H7 := Lib.hid h7
  clear h7
  go_wp2_with fail
  refine (HS _).out.mono ?_
  rintro e1 w8 ⟨rfl, hB⟩
  have h8 := H7.out.below hB
  clear H7 hB c0 c1 c2 c3 c4 c5 c6 c7 c8 c9 c10 c11 c12 c13 c14 c15 c16 c17 cf
  obtain ⟨c0, c1, c2, c3, c4, c5, c6, c7, c8, c9, c10, c11, c12, c13, c14, c15, c16, c17, cf⟩ := rcCells h8
  rw [Hti.out] at c5
  have H8 := Lib.hid h8
  clear h8
  go_wp2_with fail
  go_ret
  exact ⟨rfl, H8.out⟩

set_option maxHeartbeats 2000000 in
theorem rcLoad_more (j : Nat) (hr : RcOk c np p) (hp : p.Ok) (hj : j < p.ti) (hn : ws.length ≤ 1000000) (hl : lg.length < 1000000) (hi : p.wd j < ws.length) (y : Int) (hy : ws.getD (p.wd j) 0 = y) (hI : I64 y) (hc : stS y ≠ 0) (he : j + 1 ≠ p.ti)
    (h : Own w0 F0 (blk k (rcO c pp np cp pl nl cl p.st j false saw 0 false 0 0) :: memA T m ws lg :: L) w) :
    Calls Tryz.prog 75 #[.pointer (some ⟨k, 0, none⟩), .pointer (some ⟨m, 0, none⟩)] w fun en w' => en = .returned (.bool false) ∧
      Own w0 F0 (blk k (rcO c pp np cp pl nl cl p.st ((j : Int) + 1) false y 0 false 0 0) :: memA T m ws (lg ++ [⟨1, (p.wd j : Nat), y, 0, false⟩]) :: L) w' := by
  have HT := fun w => Lib.hid (rTicket_q (pp := pp) (np := np) (cp := cp) (pl := pl) (nl := nl) (cl := cl) c hr.hs hr.np12 (p.tic j) (by omega) (by have := tic_lt hp j; have := hp.t16; omega) w)
  rw [show lim c np + 2 * ((p.tic j : Nat) : Int) = ((p.wd j : Nat) : Int) by rw [hr.tk]; unfold CP.wd; omega] at HT
  have s0 : (0 : Int) ≤ (p.st : Int) + j := by omega
  have s1 := hp.s1
  have t1 := hp.t1
  have t16 := hp.t16
  have hwr : IntKind.i64.wrap ((p.st : Int) + (j : Int)) = (p.st : Int) + (j : Int) := IntWalk.i64_in _ (by omega)
  have htm : ((p.st : Int) + (j : Int)).tmod (p.ti : Int) = ((p.tic j : Nat) : Int) := by
    rw [Int.tmod_eq_emod_of_nonneg s0]; unfold CP.tic; rw [Int.natCast_emod, Int.natCast_add]
  have hz : ((p.ti : Int) == 0) = false := by simp; omega
  have hz2 : ¬ (p.ti : Int) = 0 := by omega
  have hti := hr.ti
  have hwd := hi
  have HL := fun L w h => Lib.hid (rLoad_z11 (w0 := w0) (F0 := F0) (L := L) (T := T) (m := m) (ws := ws) (lg := lg) (w := w) (p.wd j) y hy hi hl h)
  have HS := fun w => Lib.hid (rState_any y hI w)
  have hd : (stS y != 0) = true := by rw [bne_iff_ne]; exact hc
  have HN := fun w h => Lib.hid (rcNext_more (w0 := w0) (F0 := F0) (L := memA T m ws (lg ++ [⟨1, (p.wd j : Nat), y, 0, false⟩]) :: L) (k := k) (c := c) (pp := pp) (np := np) (cp := cp) (pl := pl) (nl := nl) (cl := cl) (st := p.st) (saw := y) (w := w) true j p.ti (by omega) (by omega) hti (by omega) h)
  generalize stS y = Y at HS hd
  clear hc hI hy he
  obtain ⟨c0, c1, c2, c3, c4, c5, c6, c7, c8, c9, c10, c11, c12, c13, c14, c15, c16, c17, cf⟩ := rcCells h
  rw [hti] at c5
  have HQ := Lib.hid (fun q => h.drewN q)
  have Hti := Lib.hid hti
  clear h hl hn hi hr hp hj hti hwd s0 s1
  generalize hW : p.wd j = W at *
  generalize hK : p.tic j = K at *
  clear hW hK
  generalize (p.st : Int) = S0 at *
  generalize p.ti = TI at *
  go_enter Tryz.func75, Tryz.ntmps75
  go_wp2_with fail
  go_quiet (fail)
  have h3 := HQ.out nq
  have H3 := Lib.hid h3
  clear HQ c0 c1 c2 c3 c4 c5 c6 c7 c8 c9 c10 c11 c12 c13 c14 c15 c16 c17 cf
  generalize World.drewN w nq = w3 at *
  obtain ⟨c0, c1, c2, c3, c4, c5, c6, c7, c8, c9, c10, c11, c12, c13, c14, c15, c16, c17, cf⟩ := rcCells h3
  rw [Hti.out] at c5
  clear h3
  go_wp2_with fail
  rw [← Hti.out]
  refine (HT _).out.mono ?_
  rintro e1 w4 ⟨rfl, hB⟩
  have h5 := H3.out.below hB
  clear H3 hB c0 c1 c2 c3 c4 c5 c6 c7 c8 c9 c10 c11 c12 c13 c14 c15 c16 c17 cf
  obtain ⟨c0, c1, c2, c3, c4, c5, c6, c7, c8, c9, c10, c11, c12, c13, c14, c15, c16, c17, cf⟩ := rcCells h5
  rw [Hti.out] at c5
  have HLd := HL _ _ h5.swap
  clear h5 HL
  rw [Hti.out]
  go_wp2_with fail
  refine HLd.out.mono ?_
  rintro e1 w5 ⟨rfl, hM⟩
  have hM := hM.swap
  clear HLd c0 c1 c2 c3 c4 c5 c6 c7 c8 c9 c10 c11 c12 c13 c14 c15 c16 c17 cf
  obtain ⟨c0, c1, c2, c3, c4, c5, c6, c7, c8, c9, c10, c11, c12, c13, c14, c15, c16, c17, cf⟩ := rcCells hM
  rw [Hti.out] at c5
  have H6 := Lib.hid ((hM.set 11 (.int .i64 y)).set 10 (.bool true))
  clear hM
  go_wp2_with fail
  have h7 : Own w0 F0 (blk k (rcO c pp np cp pl nl cl S0 j true y 0 false 0 0) :: memA T m ws (lg ++ [⟨1, W, y, 0, false⟩]) :: L) _ := H6.out
  generalize World.setCell _ _ _ = w7 at h7 ⊢
  clear H6 c0 c1 c2 c3 c4 c5 c6 c7 c8 c9 c10 c11 c12 c13 c14 c15 c16 c17 cf
  obtain ⟨c0, c1, c2, c3, c4, c5, c6, c7, c8, c9, c10, c11, c12, c13, c14, c15, c16, c17, cf⟩ := rcCells h7
  rw [Hti.out] at c5
  have H7 := Lib.hid h7
  clear h7
  go_wp2_with fail
  refine (HS _).out.mono ?_
  rintro e1 w8 ⟨rfl, hB⟩
  have h8 := H7.out.below hB
  clear H7 hB c0 c1 c2 c3 c4 c5 c6 c7 c8 c9 c10 c11 c12 c13 c14 c15 c16 c17 cf
  obtain ⟨c0, c1, c2, c3, c4, c5, c6, c7, c8, c9, c10, c11, c12, c13, c14, c15, c16, c17, cf⟩ := rcCells h8
  rw [Hti.out] at c5
  have H8 := Lib.hid h8
  clear h8
  go_wp2_with fail
  refine (HN _ H8.out).out.mono ?_
  rintro e1 w9 ⟨rfl, h9⟩
  clear H8 c0 c1 c2 c3 c4 c5 c6 c7 c8 c9 c10 c11 c12 c13 c14 c15 c16 c17 cf
  obtain ⟨c0, c1, c2, c3, c4, c5, c6, c7, c8, c9, c10, c11, c12, c13, c14, c15, c16, c17, cf⟩ := rcCells h9
  have H9 := Lib.hid h9
  clear h9
  go_wp2_with fail
  go_ret
  exact ⟨rfl, H9.out⟩

set_option maxHeartbeats 2000000 in
theorem rcLoad_end (j : Nat) (hr : RcOk c np p) (hp : p.Ok) (hj : j < p.ti) (hn : ws.length ≤ 1000000) (hl : lg.length < 1000000) (hi : p.wd j < ws.length) (y : Int) (hy : ws.getD (p.wd j) 0 = y) (hI : I64 y) (hc : stS y ≠ 0) (he : j + 1 = p.ti)
    (h : Own w0 F0 (blk k (rcO c pp np cp pl nl cl p.st j false saw 0 false 0 0) :: memA T m ws lg :: L) w) :
    Calls Tryz.prog 75 #[.pointer (some ⟨k, 0, none⟩), .pointer (some ⟨m, 0, none⟩)] w fun en w' => en = .returned (.bool true) ∧
      Own w0 F0 (blk k (rcO c pp np cp pl nl cl p.st ((j : Int) + 1) false y 0 true 3 0) :: memA T m ws (lg ++ [⟨1, (p.wd j : Nat), y, 0, false⟩]) :: L) w' := by
  have HT := fun w => Lib.hid (rTicket_q (pp := pp) (np := np) (cp := cp) (pl := pl) (nl := nl) (cl := cl) c hr.hs hr.np12 (p.tic j) (by omega) (by have := tic_lt hp j; have := hp.t16; omega) w)
  rw [show lim c np + 2 * ((p.tic j : Nat) : Int) = ((p.wd j : Nat) : Int) by rw [hr.tk]; unfold CP.wd; omega] at HT
  have s0 : (0 : Int) ≤ (p.st : Int) + j := by omega
  have s1 := hp.s1
  have t1 := hp.t1
  have t16 := hp.t16
  have hwr : IntKind.i64.wrap ((p.st : Int) + (j : Int)) = (p.st : Int) + (j : Int) := IntWalk.i64_in _ (by omega)
  have htm : ((p.st : Int) + (j : Int)).tmod (p.ti : Int) = ((p.tic j : Nat) : Int) := by
    rw [Int.tmod_eq_emod_of_nonneg s0]; unfold CP.tic; rw [Int.natCast_emod, Int.natCast_add]
  have hz : ((p.ti : Int) == 0) = false := by simp; omega
  have hz2 : ¬ (p.ti : Int) = 0 := by omega
  have hti := hr.ti
  have hwd := hi
  have HL := fun L w h => Lib.hid (rLoad_z11 (w0 := w0) (F0 := F0) (L := L) (T := T) (m := m) (ws := ws) (lg := lg) (w := w) (p.wd j) y hy hi hl h)
  have HS := fun w => Lib.hid (rState_any y hI w)
  have hd : (stS y != 0) = true := by rw [bne_iff_ne]; exact hc
  have HN := fun w h => Lib.hid (rcNext_end (w0 := w0) (F0 := F0) (L := memA T m ws (lg ++ [⟨1, (p.wd j : Nat), y, 0, false⟩]) :: L) (k := k) (c := c) (pp := pp) (np := np) (cp := cp) (pl := pl) (nl := nl) (cl := cl) (st := p.st) (saw := y) (w := w) true j p.ti (by omega) (by omega) hti (by omega) h)
  generalize stS y = Y at HS hd
  clear hc hI hy he
  obtain ⟨c0, c1, c2, c3, c4, c5, c6, c7, c8, c9, c10, c11, c12, c13, c14, c15, c16, c17, cf⟩ := rcCells h
  rw [hti] at c5
  have HQ := Lib.hid (fun q => h.drewN q)
  have Hti := Lib.hid hti
  clear h hl hn hi hr hp hj hti hwd s0 s1
  generalize hW : p.wd j = W at *
  generalize hK : p.tic j = K at *
  clear hW hK
  generalize (p.st : Int) = S0 at *
  generalize p.ti = TI at *
  go_enter Tryz.func75, Tryz.ntmps75
  go_wp2_with fail
  go_quiet (fail)
  have h3 := HQ.out nq
  have H3 := Lib.hid h3
  clear HQ c0 c1 c2 c3 c4 c5 c6 c7 c8 c9 c10 c11 c12 c13 c14 c15 c16 c17 cf
  generalize World.drewN w nq = w3 at *
  obtain ⟨c0, c1, c2, c3, c4, c5, c6, c7, c8, c9, c10, c11, c12, c13, c14, c15, c16, c17, cf⟩ := rcCells h3
  rw [Hti.out] at c5
  clear h3
  go_wp2_with fail
  rw [← Hti.out]
  refine (HT _).out.mono ?_
  rintro e1 w4 ⟨rfl, hB⟩
  have h5 := H3.out.below hB
  clear H3 hB c0 c1 c2 c3 c4 c5 c6 c7 c8 c9 c10 c11 c12 c13 c14 c15 c16 c17 cf
  obtain ⟨c0, c1, c2, c3, c4, c5, c6, c7, c8, c9, c10, c11, c12, c13, c14, c15, c16, c17, cf⟩ := rcCells h5
  rw [Hti.out] at c5
  have HLd := HL _ _ h5.swap
  clear h5 HL
  rw [Hti.out]
  go_wp2_with fail
  refine HLd.out.mono ?_
  rintro e1 w5 ⟨rfl, hM⟩
  have hM := hM.swap
  clear HLd c0 c1 c2 c3 c4 c5 c6 c7 c8 c9 c10 c11 c12 c13 c14 c15 c16 c17 cf
  obtain ⟨c0, c1, c2, c3, c4, c5, c6, c7, c8, c9, c10, c11, c12, c13, c14, c15, c16, c17, cf⟩ := rcCells hM
  rw [Hti.out] at c5
  have H6 := Lib.hid ((hM.set 11 (.int .i64 y)).set 10 (.bool true))
  clear hM
  go_wp2_with fail
  have h7 : Own w0 F0 (blk k (rcO c pp np cp pl nl cl S0 j true y 0 false 0 0) :: memA T m ws (lg ++ [⟨1, W, y, 0, false⟩]) :: L) _ := H6.out
  generalize World.setCell _ _ _ = w7 at h7 ⊢
  clear H6 c0 c1 c2 c3 c4 c5 c6 c7 c8 c9 c10 c11 c12 c13 c14 c15 c16 c17 cf
  obtain ⟨c0, c1, c2, c3, c4, c5, c6, c7, c8, c9, c10, c11, c12, c13, c14, c15, c16, c17, cf⟩ := rcCells h7
  rw [Hti.out] at c5
  have H7 := Lib.hid h7
  clear h7
  go_wp2_with fail
  refine (HS _).out.mono ?_
  rintro e1 w8 ⟨rfl, hB⟩
  have h8 := H7.out.below hB
  clear H7 hB c0 c1 c2 c3 c4 c5 c6 c7 c8 c9 c10 c11 c12 c13 c14 c15 c16 c17 cf
  obtain ⟨c0, c1, c2, c3, c4, c5, c6, c7, c8, c9, c10, c11, c12, c13, c14, c15, c16, c17, cf⟩ := rcCells h8
  rw [Hti.out] at c5
  have H8 := Lib.hid h8
  clear h8
  go_wp2_with fail
  refine (HN _ H8.out).out.mono ?_
  rintro e1 w9 ⟨rfl, h9⟩
  clear H8 c0 c1 c2 c3 c4 c5 c6 c7 c8 c9 c10 c11 c12 c13 c14 c15 c16 c17 cf
  obtain ⟨c0, c1, c2, c3, c4, c5, c6, c7, c8, c9, c10, c11, c12, c13, c14, c15, c16, c17, cf⟩ := rcCells h9
  have H9 := Lib.hid h9
  clear h9
  go_wp2_with fail
  go_ret
  exact ⟨rfl, H9.out⟩

set_option maxHeartbeats 2000000 in
theorem rcCas_yes (j : Nat) (hr : RcOk c np p) (hp : p.Ok) (hj : j < p.ti) (hn : ws.length ≤ 1000000) (hl : lg.length < 1000000) (hi : p.wd j < ws.length) (hI : I64 saw) (hc : ws.getD (p.wd j) 0 = saw)
    (h : Own w0 F0 (blk k (rcO c pp np cp pl nl cl p.st j true saw 0 false 0 0) :: memA T m ws lg :: L) w) :
    Calls Tryz.prog 75 #[.pointer (some ⟨k, 0, none⟩), .pointer (some ⟨m, 0, none⟩)] w fun en w' => en = .returned (.bool true) ∧
      Own w0 F0 (blk k (rcO c pp np cp pl nl cl p.st j true saw (tnW saw 1) true 0 (p.tic j : Nat)) :: memA T m (ws.set (p.wd j) (tnW saw 1)) (lg ++ [⟨3, (p.wd j : Nat), saw, tnW saw 1, true⟩]) :: L) w' := by
  have HT := fun w => Lib.hid (rTicket_q (pp := pp) (np := np) (cp := cp) (pl := pl) (nl := nl) (cl := cl) c hr.hs hr.np12 (p.tic j) (by omega) (by have := tic_lt hp j; have := hp.t16; omega) w)
  rw [show lim c np + 2 * ((p.tic j : Nat) : Int) = ((p.wd j : Nat) : Int) by rw [hr.tk]; unfold CP.wd; omega] at HT
  have s0 : (0 : Int) ≤ (p.st : Int) + j := by omega
  have s1 := hp.s1
  have t1 := hp.t1
  have t16 := hp.t16
  have hwr : IntKind.i64.wrap ((p.st : Int) + (j : Int)) = (p.st : Int) + (j : Int) := IntWalk.i64_in _ (by omega)
  have htm : ((p.st : Int) + (j : Int)).tmod (p.ti : Int) = ((p.tic j : Nat) : Int) := by
    rw [Int.tmod_eq_emod_of_nonneg s0]; unfold CP.tic; rw [Int.natCast_emod, Int.natCast_add]
  have hz : ((p.ti : Int) == 0) = false := by simp; omega
  have hz2 : ¬ (p.ti : Int) = 0 := by omega
  have hti := hr.ti
  have hwd := hi
  have HC := fun L w h => Lib.hid (rCas_yes (w0 := w0) (F0 := F0) (L := L) (T := T) (m := m) (ws := ws) (l := lg) (w := w) (p.wd j) saw (tnW saw 1) hi hn hl hc h)
  have HTn := fun w => Lib.hid (rTurn_any saw 1 hI (by unfold W64; decide) w)
  rw [show tnV saw 1 = tnW saw 1 from if_pos (by decide), show tnB 1 = true from by decide] at HTn
  generalize htn : tnW saw 1 = N1 at *
  clear htn
  clear hc
  obtain ⟨c0, c1, c2, c3, c4, c5, c6, c7, c8, c9, c10, c11, c12, c13, c14, c15, c16, c17, cf⟩ := rcCells h
  rw [hti] at c5
  have HQ := Lib.hid (fun q => h.drewN q)
  have Hti := Lib.hid hti
  clear h hl hn hi hr hp hj hti hwd s0 s1
  generalize hW : p.wd j = W at *
  generalize hK : p.tic j = K at *
  clear hW hK
  generalize (p.st : Int) = S0 at *
  generalize p.ti = TI at *
  go_enter Tryz.func75, Tryz.ntmps75
  go_wp2_with fail
  go_quiet (fail)
  have h3 := HQ.out nq
  have H3 := Lib.hid h3
  clear HQ c0 c1 c2 c3 c4 c5 c6 c7 c8 c9 c10 c11 c12 c13 c14 c15 c16 c17 cf
  generalize World.drewN w nq = w3 at *
  obtain ⟨c0, c1, c2, c3, c4, c5, c6, c7, c8, c9, c10, c11, c12, c13, c14, c15, c16, c17, cf⟩ := rcCells h3
  rw [Hti.out] at c5
  clear h3
  go_wp2_with fail
  refine (HTn _).out.mono ?_
  rintro e1 w4 ⟨rfl, hB⟩
  have h5 := H3.out.below hB
  clear H3 hB c0 c1 c2 c3 c4 c5 c6 c7 c8 c9 c10 c11 c12 c13 c14 c15 c16 c17 cf
  obtain ⟨c0, c1, c2, c3, c4, c5, c6, c7, c8, c9, c10, c11, c12, c13, c14, c15, c16, c17, cf⟩ := rcCells h5
  have hO := h5.drew
  clear h5
  go_wp2_with fail
  go_region_held3 (fun w' => w'.cell? ⟨k, 0, none⟩ = some (.int .i64 c.th) ∧ w'.cell? ⟨k, 1, none⟩ = some (.int .i64 c.st) ∧ w'.cell? ⟨k, 2, none⟩ = some (.int .i64 c.ga) ∧ w'.cell? ⟨k, 3, none⟩ = some (.int .i64 c.le) ∧ w'.cell? ⟨k, 4, none⟩ = some (.int .i64 c.re) ∧ w'.cell? ⟨k, 5, none⟩ = some (.int .i64 c.ti) ∧ w'.cell? ⟨k, 6, none⟩ = some (.slice pp np cp) ∧ w'.cell? ⟨k, 7, none⟩ = some (.slice pl nl cl) ∧ w'.cell? ⟨k, 11, none⟩ = some (.int .i64 saw)) (go_keep) (first | (go_at_call 39; refine (HT _).out.mono ?_; rintro e1 w5 ⟨rfl, hB⟩; have hO := Own.below hO hB; obtain ⟨c0, c1, c2, c3, c4, c5, c6, c7, c8, c9, c10, c11, c12, c13, c14, c15, c16, c17, cf⟩ := rcCells hO) | (go_at_call 114; with_reducible refine Calls.mono (Hid.out (HC _ _ hO.swap)) ?_; rintro e1 w6 ⟨rfl, hM⟩; obtain ⟨c0, c1, c2, c3, c4, c5, c6, c7, c8, c9, c10, c11, c12, c13, c14, c15, c16, c17, cf⟩ := rcCells hM.swap))
  all_goals
    have H6 := Lib.hid ((((((hM.swap.set 14 (.int .i64 0)).set 15 (.int .i64 K)).set 16 (.bool false)).set 17 (.int .i64 0)).set 12 (.int .i64 N1)).set 13 (.bool true))
    clear hM hO HC
    go_wp2_with fail
    go_ret
    exact ⟨rfl, H6.out⟩

set_option maxHeartbeats 2000000 in
theorem rcCas_more (j : Nat) (hr : RcOk c np p) (hp : p.Ok) (hj : j < p.ti) (hn : ws.length ≤ 1000000) (hl : lg.length < 1000000) (hi : p.wd j < ws.length) (hI : I64 saw) (hc : ws.getD (p.wd j) 0 ≠ saw) (he : j + 1 ≠ p.ti)
    (h : Own w0 F0 (blk k (rcO c pp np cp pl nl cl p.st j true saw 0 false 0 0) :: memA T m ws lg :: L) w) :
    Calls Tryz.prog 75 #[.pointer (some ⟨k, 0, none⟩), .pointer (some ⟨m, 0, none⟩)] w fun en w' => en = .returned (.bool false) ∧
      Own w0 F0 (blk k (rcO c pp np cp pl nl cl p.st ((j : Int) + 1) false saw 0 false 0 0) :: memA T m ws (lg ++ [⟨3, (p.wd j : Nat), saw, tnW saw 1, false⟩]) :: L) w' := by
  have HT := fun w => Lib.hid (rTicket_q (pp := pp) (np := np) (cp := cp) (pl := pl) (nl := nl) (cl := cl) c hr.hs hr.np12 (p.tic j) (by omega) (by have := tic_lt hp j; have := hp.t16; omega) w)
  rw [show lim c np + 2 * ((p.tic j : Nat) : Int) = ((p.wd j : Nat) : Int) by rw [hr.tk]; unfold CP.wd; omega] at HT
  have s0 : (0 : Int) ≤ (p.st : Int) + j := by omega
  have s1 := hp.s1
  have t1 := hp.t1
  have t16 := hp.t16
  have hwr : IntKind.i64.wrap ((p.st : Int) + (j : Int)) = (p.st : Int) + (j : Int) := IntWalk.i64_in _ (by omega)
  have htm : ((p.st : Int) + (j : Int)).tmod (p.ti : Int) = ((p.tic j : Nat) : Int) := by
    rw [Int.tmod_eq_emod_of_nonneg s0]; unfold CP.tic; rw [Int.natCast_emod, Int.natCast_add]
  have hz : ((p.ti : Int) == 0) = false := by simp; omega
  have hz2 : ¬ (p.ti : Int) = 0 := by omega
  have hti := hr.ti
  have hwd := hi
  have HC := fun L w h => Lib.hid (rCas_no (w0 := w0) (F0 := F0) (L := L) (T := T) (m := m) (ws := ws) (l := lg) (w := w) (p.wd j) saw (tnW saw 1) hi hl hc h)
  have HN := fun w h => Lib.hid (rcNext_more (w0 := w0) (F0 := F0) (L := memA T m ws (lg ++ [⟨3, (p.wd j : Nat), saw, tnW saw 1, false⟩]) :: L) (k := k) (c := c) (pp := pp) (np := np) (cp := cp) (pl := pl) (nl := nl) (cl := cl) (st := p.st) (saw := saw) (w := w) true j p.ti (by omega) (by omega) hti (by omega) h)
  have HTn := fun w => Lib.hid (rTurn_any saw 1 hI (by unfold W64; decide) w)
  rw [show tnV saw 1 = tnW saw 1 from if_pos (by decide), show tnB 1 = true from by decide] at HTn
  generalize htn : tnW saw 1 = N1 at *
  clear htn
  clear hc he
  obtain ⟨c0, c1, c2, c3, c4, c5, c6, c7, c8, c9, c10, c11, c12, c13, c14, c15, c16, c17, cf⟩ := rcCells h
  rw [hti] at c5
  have HQ := Lib.hid (fun q => h.drewN q)
  have Hti := Lib.hid hti
  clear h hl hn hi hr hp hj hti hwd s0 s1
  generalize hW : p.wd j = W at *
  generalize hK : p.tic j = K at *
  clear hW hK
  generalize (p.st : Int) = S0 at *
  generalize p.ti = TI at *
  go_enter Tryz.func75, Tryz.ntmps75
  go_wp2_with fail
  go_quiet (fail)
  have h3 := HQ.out nq
  have H3 := Lib.hid h3
  clear HQ c0 c1 c2 c3 c4 c5 c6 c7 c8 c9 c10 c11 c12 c13 c14 c15 c16 c17 cf
  generalize World.drewN w nq = w3 at *
  obtain ⟨c0, c1, c2, c3, c4, c5, c6, c7, c8, c9, c10, c11, c12, c13, c14, c15, c16, c17, cf⟩ := rcCells h3
  rw [Hti.out] at c5
  clear h3
  go_wp2_with fail
  refine (HTn _).out.mono ?_
  rintro e1 w4 ⟨rfl, hB⟩
  have h5 := H3.out.below hB
  clear H3 hB c0 c1 c2 c3 c4 c5 c6 c7 c8 c9 c10 c11 c12 c13 c14 c15 c16 c17 cf
  obtain ⟨c0, c1, c2, c3, c4, c5, c6, c7, c8, c9, c10, c11, c12, c13, c14, c15, c16, c17, cf⟩ := rcCells h5
  have hO := h5.drew
  clear h5
  go_wp2_with fail
  go_region_held3 (fun w' => w'.cell? ⟨k, 0, none⟩ = some (.int .i64 c.th) ∧ w'.cell? ⟨k, 1, none⟩ = some (.int .i64 c.st) ∧ w'.cell? ⟨k, 2, none⟩ = some (.int .i64 c.ga) ∧ w'.cell? ⟨k, 3, none⟩ = some (.int .i64 c.le) ∧ w'.cell? ⟨k, 4, none⟩ = some (.int .i64 c.re) ∧ w'.cell? ⟨k, 5, none⟩ = some (.int .i64 c.ti) ∧ w'.cell? ⟨k, 6, none⟩ = some (.slice pp np cp) ∧ w'.cell? ⟨k, 7, none⟩ = some (.slice pl nl cl) ∧ w'.cell? ⟨k, 11, none⟩ = some (.int .i64 saw)) (go_keep) (first | (go_at_call 39; refine (HT _).out.mono ?_; rintro e1 w5 ⟨rfl, hB⟩; have hO := Own.below hO hB; obtain ⟨c0, c1, c2, c3, c4, c5, c6, c7, c8, c9, c10, c11, c12, c13, c14, c15, c16, c17, cf⟩ := rcCells hO) | (go_at_call 114; with_reducible refine Calls.mono (Hid.out (HC _ _ hO.swap)) ?_; rintro e1 w6 ⟨rfl, hM⟩; obtain ⟨c0, c1, c2, c3, c4, c5, c6, c7, c8, c9, c10, c11, c12, c13, c14, c15, c16, c17, cf⟩ := rcCells hM.swap))
  all_goals
    have hM := hM.swap
    have HM := Lib.hid hM
    clear hM hO HC
    go_wp2_with fail
    refine (HN _ HM.out).out.mono ?_
    rintro e1 w9 ⟨rfl, h9⟩
    clear HM c0 c1 c2 c3 c4 c5 c6 c7 c8 c9 c10 c11 c12 c13 c14 c15 c16 c17 cf
    obtain ⟨c0, c1, c2, c3, c4, c5, c6, c7, c8, c9, c10, c11, c12, c13, c14, c15, c16, c17, cf⟩ := rcCells h9
    have H9 := Lib.hid h9
    clear h9
    go_wp2_with fail
    go_ret
    exact ⟨rfl, H9.out⟩

set_option maxHeartbeats 2000000 in
theorem rcCas_end (j : Nat) (hr : RcOk c np p) (hp : p.Ok) (hj : j < p.ti) (hn : ws.length ≤ 1000000) (hl : lg.length < 1000000) (hi : p.wd j < ws.length) (hI : I64 saw) (hc : ws.getD (p.wd j) 0 ≠ saw) (he : j + 1 = p.ti)
    (h : Own w0 F0 (blk k (rcO c pp np cp pl nl cl p.st j true saw 0 false 0 0) :: memA T m ws lg :: L) w) :
    Calls Tryz.prog 75 #[.pointer (some ⟨k, 0, none⟩), .pointer (some ⟨m, 0, none⟩)] w fun en w' => en = .returned (.bool true) ∧
      Own w0 F0 (blk k (rcO c pp np cp pl nl cl p.st ((j : Int) + 1) false saw 0 true 3 0) :: memA T m ws (lg ++ [⟨3, (p.wd j : Nat), saw, tnW saw 1, false⟩]) :: L) w' := by
  have HT := fun w => Lib.hid (rTicket_q (pp := pp) (np := np) (cp := cp) (pl := pl) (nl := nl) (cl := cl) c hr.hs hr.np12 (p.tic j) (by omega) (by have := tic_lt hp j; have := hp.t16; omega) w)
  rw [show lim c np + 2 * ((p.tic j : Nat) : Int) = ((p.wd j : Nat) : Int) by rw [hr.tk]; unfold CP.wd; omega] at HT
  have s0 : (0 : Int) ≤ (p.st : Int) + j := by omega
  have s1 := hp.s1
  have t1 := hp.t1
  have t16 := hp.t16
  have hwr : IntKind.i64.wrap ((p.st : Int) + (j : Int)) = (p.st : Int) + (j : Int) := IntWalk.i64_in _ (by omega)
  have htm : ((p.st : Int) + (j : Int)).tmod (p.ti : Int) = ((p.tic j : Nat) : Int) := by
    rw [Int.tmod_eq_emod_of_nonneg s0]; unfold CP.tic; rw [Int.natCast_emod, Int.natCast_add]
  have hz : ((p.ti : Int) == 0) = false := by simp; omega
  have hz2 : ¬ (p.ti : Int) = 0 := by omega
  have hti := hr.ti
  have hwd := hi
  have HC := fun L w h => Lib.hid (rCas_no (w0 := w0) (F0 := F0) (L := L) (T := T) (m := m) (ws := ws) (l := lg) (w := w) (p.wd j) saw (tnW saw 1) hi hl hc h)
  have HN := fun w h => Lib.hid (rcNext_end (w0 := w0) (F0 := F0) (L := memA T m ws (lg ++ [⟨3, (p.wd j : Nat), saw, tnW saw 1, false⟩]) :: L) (k := k) (c := c) (pp := pp) (np := np) (cp := cp) (pl := pl) (nl := nl) (cl := cl) (st := p.st) (saw := saw) (w := w) true j p.ti (by omega) (by omega) hti (by omega) h)
  have HTn := fun w => Lib.hid (rTurn_any saw 1 hI (by unfold W64; decide) w)
  rw [show tnV saw 1 = tnW saw 1 from if_pos (by decide), show tnB 1 = true from by decide] at HTn
  generalize htn : tnW saw 1 = N1 at *
  clear htn
  clear hc he
  obtain ⟨c0, c1, c2, c3, c4, c5, c6, c7, c8, c9, c10, c11, c12, c13, c14, c15, c16, c17, cf⟩ := rcCells h
  rw [hti] at c5
  have HQ := Lib.hid (fun q => h.drewN q)
  have Hti := Lib.hid hti
  clear h hl hn hi hr hp hj hti hwd s0 s1
  generalize hW : p.wd j = W at *
  generalize hK : p.tic j = K at *
  clear hW hK
  generalize (p.st : Int) = S0 at *
  generalize p.ti = TI at *
  go_enter Tryz.func75, Tryz.ntmps75
  go_wp2_with fail
  go_quiet (fail)
  have h3 := HQ.out nq
  have H3 := Lib.hid h3
  clear HQ c0 c1 c2 c3 c4 c5 c6 c7 c8 c9 c10 c11 c12 c13 c14 c15 c16 c17 cf
  generalize World.drewN w nq = w3 at *
  obtain ⟨c0, c1, c2, c3, c4, c5, c6, c7, c8, c9, c10, c11, c12, c13, c14, c15, c16, c17, cf⟩ := rcCells h3
  rw [Hti.out] at c5
  clear h3
  go_wp2_with fail
  refine (HTn _).out.mono ?_
  rintro e1 w4 ⟨rfl, hB⟩
  have h5 := H3.out.below hB
  clear H3 hB c0 c1 c2 c3 c4 c5 c6 c7 c8 c9 c10 c11 c12 c13 c14 c15 c16 c17 cf
  obtain ⟨c0, c1, c2, c3, c4, c5, c6, c7, c8, c9, c10, c11, c12, c13, c14, c15, c16, c17, cf⟩ := rcCells h5
  have hO := h5.drew
  clear h5
  go_wp2_with fail
  go_region_held3 (fun w' => w'.cell? ⟨k, 0, none⟩ = some (.int .i64 c.th) ∧ w'.cell? ⟨k, 1, none⟩ = some (.int .i64 c.st) ∧ w'.cell? ⟨k, 2, none⟩ = some (.int .i64 c.ga) ∧ w'.cell? ⟨k, 3, none⟩ = some (.int .i64 c.le) ∧ w'.cell? ⟨k, 4, none⟩ = some (.int .i64 c.re) ∧ w'.cell? ⟨k, 5, none⟩ = some (.int .i64 c.ti) ∧ w'.cell? ⟨k, 6, none⟩ = some (.slice pp np cp) ∧ w'.cell? ⟨k, 7, none⟩ = some (.slice pl nl cl) ∧ w'.cell? ⟨k, 11, none⟩ = some (.int .i64 saw)) (go_keep) (first | (go_at_call 39; refine (HT _).out.mono ?_; rintro e1 w5 ⟨rfl, hB⟩; have hO := Own.below hO hB; obtain ⟨c0, c1, c2, c3, c4, c5, c6, c7, c8, c9, c10, c11, c12, c13, c14, c15, c16, c17, cf⟩ := rcCells hO) | (go_at_call 114; with_reducible refine Calls.mono (Hid.out (HC _ _ hO.swap)) ?_; rintro e1 w6 ⟨rfl, hM⟩; obtain ⟨c0, c1, c2, c3, c4, c5, c6, c7, c8, c9, c10, c11, c12, c13, c14, c15, c16, c17, cf⟩ := rcCells hM.swap))
  all_goals
    have hM := hM.swap
    have HM := Lib.hid hM
    clear hM hO HC
    go_wp2_with fail
    refine (HN _ HM.out).out.mono ?_
    rintro e1 w9 ⟨rfl, h9⟩
    clear HM c0 c1 c2 c3 c4 c5 c6 c7 c8 c9 c10 c11 c12 c13 c14 c15 c16 c17 cf
    obtain ⟨c0, c1, c2, c3, c4, c5, c6, c7, c8, c9, c10, c11, c12, c13, c14, c15, c16, c17, cf⟩ := rcCells h9
    have H9 := Lib.hid h9
    clear h9
    go_wp2_with fail
    go_ret
    exact ⟨rfl, H9.out⟩

end
end
section
open Go.ChangeShapes Go.WideShapes Go.ChangeAt Go.RowKit Go.Shelf
set_option linter.unusedVariables false
set_option maxRecDepth 100000
variable {w0 w w' : World} {F0 : Nat → Prop} {L : List Asn} {T : TypeId} {m : Nat} {ws : List Int} {lg : List Acc} {pp pl : Option Addr} {np cp nl cl : Nat}
def erC (s : CS) : Int := if s.fin = true ∧ s.ok = false then 3 else 0
def rcA (k : Nat) (c : Cf) (pp : Option Addr) (np cp : Nat) (pl : Option Addr) (nl cl : Nat) (p : CP) (s : CS) : Asn := blk k (rcO c pp np cp pl nl cl (p.st : Int) (s.j : Int) s.seen s.saw s.put s.fin (erC s) (s.n : Int))
def rclM (k : Nat) (c : Cf) (pp : Option Addr) (np cp : Nat) (pl : Option Addr) (nl cl : Nat) (p : CP) : Mach CS where
  asn s := rcA k c pp np cp pl nl cl p s
  step s ws lg := stepC p s ws lg
  ok s ws lg := p.Ok ∧ CW p ws ∧ CSOk p s ∧ lg.length < 1000000
theorem rcl_steps (k m : Nat) (c : Cf) (T : TypeId) (p : CP) (hr : RcOk c np p) : StepsBy w0 F0 (rclM k c pp np cp pl nl cl p) 75 (.pointer (some ⟨k, 0, none⟩)) T m := by
  intro L s ws lg w ⟨hp, hw, hs, hl⟩ h
  simp only [rclM] at h ⊢
  have hm : ws.length ≤ 1000000 := by have := hw.most; omega
  obtain ⟨j, seen, saw, fin, ok, n, put⟩ := s
  have hlt := hs.lt
  have hopen := hs.open_
  have hbad := hs.bad
  have hI := hs.saw
  have hsh := hs.shut
  simp only at hlt hopen hbad hI hsh
  have hwd := cwd_in hp hw j
  cases fin with
  | true =>
    refine (rc9_any _ h).mono ?_
    rintro e w' ⟨rfl, rfl⟩
    exact ⟨rfl, h⟩
  | false =>
    have hj := hlt rfl
    have ho := hopen rfl
    subst ho
    obtain ⟨rfl, rfl⟩ := hbad rfl
    have fj : ((j : Int) + 1) = ((j + 1 : Nat) : Int) := by omega
    cases seen with
    | false =>
      have h' : Own w0 F0 (blk k (rcO c pp np cp pl nl cl p.st j false saw 0 false 0 0) :: memA T m ws lg :: L) w := h
      by_cases hc : stS (ws.getD (p.wd j) 0) = 0
      · have e : stepC p ⟨j, false, saw, false, false, 0, 0⟩ ws lg = (⟨j, true, ws.getD (p.wd j) 0, false, false, 0, 0⟩, ws, lg ++ [⟨1, (p.wd j : Nat), ws.getD (p.wd j) 0, 0, false⟩], false) := by
          unfold stepC; rw [if_neg (by simp), if_neg (by simp), if_pos hc]
        rw [e]
        exact rcLoad_free j hr hp hj hm hl hwd _ rfl (hw.wf _) hc h'
      · have e : stepC p ⟨j, false, saw, false, false, 0, 0⟩ ws lg = (nextC p j (ws.getD (p.wd j) 0), ws, lg ++ [⟨1, (p.wd j : Nat), ws.getD (p.wd j) 0, 0, false⟩], decide (j + 1 = p.ti)) := by
          unfold stepC; rw [if_neg (by simp), if_neg (by simp), if_neg hc]
        rw [e]
        by_cases he : j + 1 = p.ti
        · rw [decide_eq_true he]
          have hK := rcLoad_end j hr hp hj hm hl hwd _ rfl (hw.wf _) hc he h'
          unfold nextC
          rw [decide_eq_true he]
          exact hK
        · rw [decide_eq_false he]
          have hK := rcLoad_more j hr hp hj hm hl hwd _ rfl (hw.wf _) hc he h'
          unfold nextC
          rw [decide_eq_false he]
          exact hK
    | true =>
      have h' : Own w0 F0 (blk k (rcO c pp np cp pl nl cl p.st j true saw 0 false 0 0) :: memA T m ws lg :: L) w := h
      by_cases hc : ws.getD (p.wd j) 0 = saw
      · have e : stepC p ⟨j, true, saw, false, false, 0, 0⟩ ws lg = (⟨j, true, saw, true, true, p.tic j, tnW saw 1⟩, ws.set (p.wd j) (tnW saw 1), lg ++ [⟨3, (p.wd j : Nat), saw, tnW saw 1, true⟩], true) := by
          unfold stepC; rw [if_neg (by simp), if_pos rfl, if_pos hc]
        rw [e]
        exact rcCas_yes j hr hp hj hm hl hwd hI hc h'
      · have e : stepC p ⟨j, true, saw, false, false, 0, 0⟩ ws lg = (nextC p j saw, ws, lg ++ [⟨3, (p.wd j : Nat), saw, tnW saw 1, false⟩], decide (j + 1 = p.ti)) := by
          unfold stepC; rw [if_neg (by simp), if_pos rfl, if_neg hc]
        rw [e]
        by_cases he : j + 1 = p.ti
        · rw [decide_eq_true he]
          have hK := rcCas_end j hr hp hj hm hl hwd hI hc he h'
          unfold nextC
          rw [decide_eq_true he]
          exact hK
        · rw [decide_eq_false he]
          have hK := rcCas_more j hr hp hj hm hl hwd hI hc he h'
          unfold nextC
          rw [decide_eq_false he]
          exact hK
theorem rcAns_any {k : Nat} {c : Cf} {p : CP} {s : CS} (h : Own w0 F0 (rcA k c pp np cp pl nl cl p s :: L) w) :
    Calls Tryz.prog 74 #[.pointer (some ⟨k, 0, none⟩)] w fun e w' => e = .returned (ansV (erC s) (s.n : Int) false 0) ∧ Below w.heap.size w w' := by
  obtain ⟨c0, c1, c2, c3, c4, c5, c6, c7, c8, c9, c10, c11, c12, c13, c14, c15, c16, c17, cf⟩ := rcCells h
  have hg : k < w.heap.size := h.inHeap
  generalize erC s = er at *
  generalize (s.n : Int) = nn at *
  have A3 : ∀ o, (w.alloc o).cell? ⟨k, 14, none⟩ = some (.int .i64 er) := fun o => (World.cell?_alloc_lt _ _ _ hg).trans c14
  have A4 : ∀ o, (w.alloc o).cell? ⟨k, 15, none⟩ = some (.int .i64 nn) := fun o => (World.cell?_alloc_lt _ _ _ hg).trans c15
  have A5 : ∀ o, (w.alloc o).cell? ⟨k, 16, none⟩ = some (.bool false) := fun o => (World.cell?_alloc_lt _ _ _ hg).trans c16
  have A6 : ∀ o, (w.alloc o).cell? ⟨k, 17, none⟩ = some (.int .i64 0) := fun o => (World.cell?_alloc_lt _ _ _ hg).trans c17
  have hB := Lib.hid (fun y z u v => ((Own.start w).alloc (.cells #[y, z, u, v] 47)).toBelow)
  unfold ansV
  clear h
  go_enter Tryz.func74, Tryz.ntmps74
  go_wp2_with fail
  (try simp only [Exit.inBlock, Exit.then])
  refine bodyPost_ret (by simp [results, Tryz.results74, go_sem, *]; try rfl) rfl ?_
  exact ⟨rfl, hB.out _ _ _ _⟩
theorem rcWord_any {k : Nat} {c : Cf} {p : CP} {s : CS} (h : Own w0 F0 (rcA k c pp np cp pl nl cl p s :: L) w) :
    Calls Tryz.prog 82 #[.pointer (some ⟨k, 0, none⟩)] w fun e w' => e = .returned (.int .i64 s.put) ∧ Below w.heap.size w w' := by
  have c12 : w.cell? ⟨k, 12, none⟩ = some (.int .i64 s.put) := h.cell (i := 12) rfl
  clear h
  go_enter Tryz.func82, Tryz.ntmps82
  go_wp2_with fail
  go_ret
  exact ⟨rfl, Below.refl _ _⟩
set_option maxHeartbeats 1000000 in
theorem rcNew_any (c : Cf) {vp vl : Value} (hs : c.Rt) (hp : ∀ w', Own w0 F0 L w' → IntsAt w' .i64 vp c.ps) (hl : ∀ w', Own w0 F0 L w' → IntsAt w' .i64 vl c.ls) (p : CP) (h : Own w0 F0 L w) :
    Calls Tryz.prog 73 #[cfV c vp vl, .int .i64 p.st] w fun e w' =>
      ∃ k a1 c1 a2 c2, e = .returned (.pointer (some ⟨k, 0, none⟩)) ∧ Own w0 F0 (rcA k c a1 c.ps.length c1 a2 c.ls.length c2 p s0C :: L) w' := by
  have h1 := h.new (cfO c vp vl)
  have HO := Lib.hid (rOwn_any (w := w.alloc (cfO c vp vl)) c (hp _ (h1.drop)) (hl _ (h1.drop)) (by have := hs.n0; omega) (by have := hs.n1; omega) (by have := hs.n0; have := hs.ll; omega) (by have := hs.n1; have := hs.ll; omega))
  have H1 := Lib.hid h1.drop
  have hc := conf_cells h1
  obtain ⟨d0, d1, d2, d3, d4, d5, d6, d7⟩ := hc
  clear h h1 hp hl hs
  go_enter Tryz.func73, Tryz.ntmps73
  go_wp2_with fail
  refine HO.out.mono ?_
  rintro e w1 ⟨a1, c1, a2, c2, rfl, hB⟩
  have HF := Lib.hid ((H1.out.below hB).new (rcO c a1 c.ps.length c1 a2 c.ls.length c2 p.st 0 false 0 0 false 0 0))
  unfold rcO at HF
  clear H1 hB HO d0 d1 d2 d3 d4 d5 d6 d7
  go_wp2_with fail
  go_ret
  exact ⟨_, a1, c1, a2, c2, rfl, HF.out⟩
end
section
open Go.ChangeShapes Go.WideShapes Go.ChangeAt Go.RowKit Go.Shelf
set_option linter.unusedVariables false
set_option linter.unusedSimpArgs false
set_option maxRecDepth 100000
variable {w w' W : World} {L : List Asn} {T : TypeId}
theorem rPokeW11 {w0 : World} {F0 : Nat → Prop} {m : Nat} {ws : List Int} {lg : List Acc} {q : Pk} (h0 : 0 ≤ q.w) (h1 : q.w < ws.length) (hn : ws.length ≤ 1000000) (h : Own w0 F0 (memA T m ws lg :: L) w) :
    Calls Tryz.prog 59 #[.pointer (some ⟨m, 0, none⟩), .int .i64 q.w, .int .i64 q.x] w fun e w' => e = .returned (.tuple #[]) ∧ Own w0 F0 (memA T m (pokeW ws q) lg :: L) w' := by
  have e : pokeW ws q = ws.set q.w.toNat q.x := if_pos ⟨h0, h1⟩
  have e2 : q.w = (q.w.toNat : Int) := by omega
  rw [e, e2]
  exact rPoke_any q.w.toNat q.x hn h
theorem beq_f11 {a b : Int} (h : ¬ a = b) : (a == b) = false := by rw [beq_eq_false_iff_ne]; exact h
end
end Go.Proofs.YtlpdafldabfiaaaGreat
end
