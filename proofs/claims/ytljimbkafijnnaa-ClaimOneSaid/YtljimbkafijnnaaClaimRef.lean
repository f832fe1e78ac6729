/- The document's machine of layer 11: Step, by its own code. Written by tools/gen_claimref.py. The document's machine of layer 11 as its Play steps it: Step is stepC; Ans; Word; New. The document's Play of layer 11, for whatever machine. -/
import Derived.Test.YtljimbkafijnnaaPlanOf
import Derived.Test.YtljimbkafijnnaaMemRef2
import Derived.Test.YtljimbkafijnnaaClaimMath
import Derived.Test.YtljimbkafijnnaaSlotRef
import Derived.Deep.RegionHeld3
import Derived.Deep.QuietTactic
import Derived.BigQuiet
import Derived.Test.YtljimbkafijnnaaOwnRef
import Derived.Test.YtljimbkafijnnaaBase8
import Derived.Test.YtljimbkafijnnaaPlay
import Derived.Test.YtljimbkafijnnaaMemRefNew
import Derived.Test.YtljimbkafijnnaaPokes
import Derived.StillTailTactics
namespace Go.Proofs.Ytljimbkafijnnaa
section
open Go.ChangeShapes Go.WideShapes Go.ChangeAt Go.RowKit Go.Shelf
set_option linter.unusedVariables false
set_option linter.unusedSimpArgs false
set_option maxRecDepth 100000
variable {w0 w w' : World} {F0 : Nat → Prop} {L : List Asn} {T : TypeId} {m : Nat} {ws : List Int} {lg : List Acc}
def rcO (c : Cf) (pp : Option Addr) (np cp : Nat) (pl : Option Addr) (nl cl : Nat) (st j : Int) (seen : Bool) (saw put : Int) (fin : Bool) (er nn : Int) : Obj := .cells #[.int .i64 c.th, .int .i64 c.st, .int .i64 c.ga, .int .i64 c.le, .int .i64 c.re, .int .i64 c.ti, .slice pp np cp, .slice pl nl cl, .int .i64 st, .int .i64 j, .bool seen, .int .i64 saw, .int .i64 put, .bool fin, .int .i64 er, .int .i64 nn, .bool false, .int .i64 0] 82 (0, 0)
theorem rcCells {k : Nat} {c : Cf} {pp pl : Option Addr} {np cp nl cl : Nat} {st j : Int} {seen : Bool} {saw put : Int} {fin : Bool} {er nn : Int} (h : Own w0 F0 (blk k (rcO c pp np cp pl nl cl st j seen saw put fin er nn) :: L) w) :
    w.cell? ⟨k, 0, none⟩ = some (.int .i64 c.th) ∧ w.cell? ⟨k, 1, none⟩ = some (.int .i64 c.st) ∧ w.cell? ⟨k, 2, none⟩ = some (.int .i64 c.ga) ∧ w.cell? ⟨k, 3, none⟩ = some (.int .i64 c.le) ∧ w.cell? ⟨k, 4, none⟩ = some (.int .i64 c.re) ∧ w.cell? ⟨k, 5, none⟩ = some (.int .i64 c.ti) ∧ w.cell? ⟨k, 6, none⟩ = some (.slice pp np cp) ∧ w.cell? ⟨k, 7, none⟩ = some (.slice pl nl cl) ∧ w.cell? ⟨k, 8, none⟩ = some (.int .i64 st) ∧ w.cell? ⟨k, 9, none⟩ = some (.int .i64 j) ∧ w.cell? ⟨k, 10, none⟩ = some (.bool seen) ∧ w.cell? ⟨k, 11, none⟩ = some (.int .i64 saw) ∧ w.cell? ⟨k, 12, none⟩ = some (.int .i64 put) ∧ w.cell? ⟨k, 13, none⟩ = some (.bool fin) ∧ w.cell? ⟨k, 14, none⟩ = some (.int .i64 er) ∧ w.cell? ⟨k, 15, none⟩ = some (.int .i64 nn) ∧ w.cell? ⟨k, 16, none⟩ = some (.bool false) ∧ w.cell? ⟨k, 17, none⟩ = some (.int .i64 0) ∧ ∀ j, w.frozen? ⟨k, j, none⟩ = false :=
  ⟨h.cell (i := 0) rfl, h.cell (i := 1) rfl, h.cell (i := 2) rfl, h.cell (i := 3) rfl, h.cell (i := 4) rfl, h.cell (i := 5) rfl, h.cell (i := 6) rfl, h.cell (i := 7) rfl, h.cell (i := 8) rfl, h.cell (i := 9) rfl, h.cell (i := 10) rfl, h.cell (i := 11) rfl, h.cell (i := 12) rfl, h.cell (i := 13) rfl, h.cell (i := 14) rfl, h.cell (i := 15) rfl, h.cell (i := 16) rfl, h.cell (i := 17) rfl, fun j => h.unfrozen⟩
structure RcOk (c : Cf) (np : Nat) (p : CP) : Prop where
  hs : Sm c
  np12 : np ≤ 12
  tk : lim c np = (p.tk : Int)
  ti : c.ti = (p.ti : Int)
theorem rLoad_z11 (i : Nat) (y : Int) (hy : ws.getD i 0 = y) (hi : i < ws.length) (hl : lg.length < 1000000) (h : Own w0 F0 (memA T m ws lg :: L) w) :
    Calls Try.prog 70 #[.pointer (some ⟨m, 0, none⟩), .int .i64 i] w fun en w' =>
      en = .returned (.int .i64 y) ∧ Own w0 F0 (memA T m ws (lg ++ [⟨1, i, y, 0, false⟩]) :: L) w' := by
  subst hy; exact rLoad_any i hi hl h
section
variable {k : Nat} {c : Cf} {pp pl : Option Addr} {np cp nl cl : Nat} {st saw put er nn : Int} {fin : Bool} {p : CP}

theorem rcNext_more (sn : Bool) (j ti : Int) (j0 : 0 ≤ j) (j1 : j ≤ 100) (hti : c.ti = ti) (hc : j + 1 ≠ ti) (h : Own w0 F0 (blk k (rcO c pp np cp pl nl cl st j sn saw 0 false 0 0) :: L) w) :
    Calls Try.prog 71 #[.pointer (some ⟨k, 0, none⟩)] w fun en w' => en = .returned (.tuple #[]) ∧ Own w0 F0 (blk k (rcO c pp np cp pl nl cl st (j + 1) false saw 0 false 0 0) :: L) w' := by
  have hd : (j + 1 == ti) = false := by simp; omega
  obtain ⟨c0, c1, c2, c3, c4, c5, c6, c7, c8, c9, c10, c11, c12, c13, c14, c15, c16, c17, cf⟩ := rcCells h
  rw [hti] at c5
  have H2 := Lib.hid ((h.set 9 (.int .i64 (j + 1))).set 10 (.bool false))
  clear h hc
  go_enter Try.func71, Try.ntmps71
  go_wp2_with fail
  have h2 : Own w0 F0 (blk k (rcO c pp np cp pl nl cl st (j + 1) false saw 0 false 0 0) :: L) _ := H2.out
  generalize World.setCell _ _ _ = w2 at h2 ⊢
  clear c0 c1 c2 c3 c4 c5 c6 c7 c8 c9 c10 c11 c12 c13 c14 c15 c16 c17 cf H2
  obtain ⟨c0, c1, c2, c3, c4, c5, c6, c7, c8, c9, c10, c11, c12, c13, c14, c15, c16, c17, cf⟩ := rcCells h2
  rw [hti] at c5
  have HQ := Lib.hid (fun q => h2.drewN q)
  clear h2
  go_quiet (fail)
  have h3 := HQ.out nq
  have H3 := Lib.hid h3
  clear HQ c0 c1 c2 c3 c4 c5 c6 c7 c8 c9 c10 c11 c12 c13 c14 c15 c16 c17 cf
  generalize World.drewN w2 nq = w3 at *
  obtain ⟨c0, c1, c2, c3, c4, c5, c6, c7, c8, c9, c10, c11, c12, c13, c14, c15, c16, c17, cf⟩ := rcCells h3
  clear h3
  go_wp2_with fail
  go_end0
  exact ⟨rfl, H3.out⟩

theorem rcNext_end (sn : Bool) (j ti : Int) (j0 : 0 ≤ j) (j1 : j ≤ 100) (hti : c.ti = ti) (hc : j + 1 = ti) (h : Own w0 F0 (blk k (rcO c pp np cp pl nl cl st j sn saw 0 false 0 0) :: L) w) :
    Calls Try.prog 71 #[.pointer (some ⟨k, 0, none⟩)] w fun en w' => en = .returned (.tuple #[]) ∧ Own w0 F0 (blk k (rcO c pp np cp pl nl cl st (j + 1) false saw 0 true 3 0) :: L) w' := by
  have hd : (j + 1 == ti) = true := by simp; omega
  obtain ⟨c0, c1, c2, c3, c4, c5, c6, c7, c8, c9, c10, c11, c12, c13, c14, c15, c16, c17, cf⟩ := rcCells h
  rw [hti] at c5
  have H2 := Lib.hid ((h.set 9 (.int .i64 (j + 1))).set 10 (.bool false))
  clear h hc
  go_enter Try.func71, Try.ntmps71
  go_wp2_with fail
  have h2 : Own w0 F0 (blk k (rcO c pp np cp pl nl cl st (j + 1) false saw 0 false 0 0) :: L) _ := H2.out
  generalize World.setCell _ _ _ = w2 at h2 ⊢
  clear c0 c1 c2 c3 c4 c5 c6 c7 c8 c9 c10 c11 c12 c13 c14 c15 c16 c17 cf H2
  obtain ⟨c0, c1, c2, c3, c4, c5, c6, c7, c8, c9, c10, c11, c12, c13, c14, c15, c16, c17, cf⟩ := rcCells h2
  rw [hti] at c5
  have HQ := Lib.hid (fun q => h2.drewN q)
  clear h2
  go_quiet (fail)
  have h3 := HQ.out nq
  have H3 := Lib.hid h3
  clear HQ c0 c1 c2 c3 c4 c5 c6 c7 c8 c9 c10 c11 c12 c13 c14 c15 c16 c17 cf
  generalize World.drewN w2 nq = w3 at *
  obtain ⟨c0, c1, c2, c3, c4, c5, c6, c7, c8, c9, c10, c11, c12, c13, c14, c15, c16, c17, cf⟩ := rcCells h3
  clear h3
  go_wp2_with fail
  go_end0
  exact ⟨rfl, (((((H3.out.set 14 (.int .i64 3)).set 15 (.int .i64 0)).set 16 (.bool false)).set 17 (.int .i64 0)).set 13 (.bool true))⟩

theorem rc9_any (r : Value) {j : Int} {seen : Bool} (h : Own w0 F0 (blk k (rcO c pp np cp pl nl cl st j seen saw put true er nn) :: L) w) :
    Calls Try.prog 43 #[.pointer (some ⟨k, 0, none⟩), r] w fun en w' => en = .returned (.bool true) ∧ w = w' := by
  obtain ⟨c0, c1, c2, c3, c4, c5, c6, c7, c8, c9, c10, c11, c12, c13, c14, c15, c16, c17, cf⟩ := rcCells h
  clear h
  go_enter Try.func43, Try.ntmps43
  go_wp2_with fail
  go_ret
  exact ⟨rfl, rfl⟩

set_option maxHeartbeats 2000000 in
theorem rcLoad_free (j : Nat) (hr : RcOk c np p) (hp : p.Ok) (hj : j < p.ti) (hn : ws.length ≤ 1000000) (hl : lg.length < 1000000) (hi : p.wd j < ws.length) (y : Int) (hy : ws.getD (p.wd j) 0 = y) (hI : I64 y) (hc : stS y = 0)
    (h : Own w0 F0 (blk k (rcO c pp np cp pl nl cl p.st j false saw 0 false 0 0) :: memA T m ws lg :: L) w) :
    Calls Try.prog 43 #[.pointer (some ⟨k, 0, none⟩), .pointer (some ⟨m, 0, none⟩)] w fun en w' => en = .returned (.bool false) ∧
      Own w0 F0 (blk k (rcO c pp np cp pl nl cl p.st j true y 0 false 0 0) :: memA T m ws (lg ++ [⟨1, (p.wd j : Nat), y, 0, false⟩]) :: L) w' := by
  have HT := fun w => Lib.hid (rTicket_q (pp := pp) (np := np) (cp := cp) (pl := pl) (nl := nl) (cl := cl) c hr.hs hr.np12 (p.tic j) (by omega) (by have := tic_lt hp j; have := hp.t16; omega) w)
  rw [show lim c np + 2 * ((p.tic j : Nat) : Int) = ((p.wd j : Nat) : Int) by rw [hr.tk]; unfold CP.wd; omega] at HT
  have s0 : (0 : Int) ≤ (p.st : Int) + j := by omega
  have s1 := hp.s1
  have t1 := hp.t1
  have t16 := hp.t16
  have hwr : IntKind.i64.wrap ((p.st : Int) + (j : Int)) = (p.st : Int) + (j : Int) := IntWalk.i64_in _ (by omega)
  have htm : ((p.st : Int) + (j : Int)).tmod (p.ti : Int) = ((p.tic j : Nat) : Int) := by
    rw [Int.tmod_eq_emod_of_nonneg s0]; unfold CP.tic; rw [Int.natCast_emod, Int.natCast_add]
  have hz : ((p.ti : Int) == 0) = false := by simp; omega
  have hz2 : ¬ (p.ti : Int) = 0 := by omega
  have hti := hr.ti
  have hwd := hi
  have HL := fun L w h => Lib.hid (rLoad_z11 (w0 := w0) (F0 := F0) (L := L) (T := T) (m := m) (ws := ws) (lg := lg) (w := w) (p.wd j) y hy hi hl h)
  have HS := fun w => Lib.hid (rState_any y hI w)
  rw [hc] at HS
  clear hc hI hy
  obtain ⟨c0, c1, c2, c3, c4, c5, c6, c7, c8, c9, c10, c11, c12, c13, c14, c15, c16, c17, cf⟩ := rcCells h
  rw [hti] at c5
  have HQ := Lib.hid (fun q => h.drewN q)
  have Hti := Lib.hid hti
  clear h hl hn hi hr hp hj hti hwd s0 s1
  generalize hW : p.wd j = W at *
  generalize hK : p.tic j = K at *
  clear hW hK
  generalize (p.st : Int) = S0 at *
  generalize p.ti = TI at *
  go_enter Try.func43, Try.ntmps43
  go_wp2_with fail
  go_quiet (fail)
  have h3 := HQ.out nq
  have H3 := Lib.hid h3
  clear HQ c0 c1 c2 c3 c4 c5 c6 c7 c8 c9 c10 c11 c12 c13 c14 c15 c16 c17 cf
  generalize World.drewN w nq = w3 at *
  obtain ⟨c0, c1, c2, c3, c4, c5, c6, c7, c8, c9, c10, c11, c12, c13, c14, c15, c16, c17, cf⟩ := rcCells h3
  rw [Hti.out] at c5
  clear h3
  go_wp2_with fail
  rw [← Hti.out]
  refine (HT _).out.mono ?_
  rintro e1 w4 ⟨rfl, hB⟩
  have h5 := H3.out.below hB
  clear H3 hB c0 c1 c2 c3 c4 c5 c6 c7 c8 c9 c10 c11 c12 c13 c14 c15 c16 c17 cf
  obtain ⟨c0, c1, c2, c3, c4, c5, c6, c7, c8, c9, c10, c11, c12, c13, c14, c15, c16, c17, cf⟩ := rcCells h5
  rw [Hti.out] at c5
  have HLd := HL _ _ h5.swap
  clear h5 HL
  rw [Hti.out]
  go_wp2_with fail
  refine HLd.out.mono ?_
  rintro e1 w5 ⟨rfl, hM⟩
  have hM := hM.swap
  clear HLd c0 c1 c2 c3 c4 c5 c6 c7 c8 c9 c10 c11 c12 c13 c14 c15 c16 c17 cf
  obtain ⟨c0, c1, c2, c3, c4, c5, c6, c7, c8, c9, c10, c11, c12, c13, c14, c15, c16, c17, cf⟩ := rcCells hM
  rw [Hti.out] at c5
  have H6 := Lib.hid ((hM.set 11 (.int .i64 y)).set 10 (.bool true))
  clear hM
  go_wp2_with fail
  have h7 : Own w0 F0 (blk k (rcO c pp np cp pl nl cl S0 j true y 0 false 0 0) :: memA T m ws (lg ++ [⟨1, W, y, 0, false⟩]) :: L) _ := H6.out
  generalize World.setCell _ _ _ = w7 at h7 ⊢
  clear H6 c0 c1 c2 c3 c4 c5 c6 c7 c8 c9 c10 c11 c12 c13 c14 c15 c16 c17 cf
  obtain ⟨c0, c1, c2, c3, c4, c5, c6, c7, c8, c9, c10, c11, c12, c13, c14, c15, c16, c17, cf⟩ := rcCells h7
  rw [Hti.out] at c5
  have H7 := Lib.hid h7
  clear h7
  go_wp2_with fail
  refine (HS _).out.mono ?_
  rintro e1 w8 ⟨rfl, hB⟩
  have h8 := H7.out.below hB
  clear H7 hB c0 c1 c2 c3 c4 c5 c6 c7 c8 c9 c10 c11 c12 c13 c14 c15 c16 c17 cf
  obtain ⟨c0, c1, c2, c3, c4, c5, c6, c7, c8, c9, c10, c11, c12, c13, c14, c15, c16, c17, cf⟩ := rcCells h8
  rw [Hti.out] at c5
  have H8 := Lib.hid h8
  clear h8
  go_wp2_with fail
  go_ret
  exact ⟨rfl, H8.out⟩

set_option maxHeartbeats 2000000 in
theorem rcLoad_more (j : Nat) (hr : RcOk c np p) (hp : p.Ok) (hj : j < p.ti) (hn : ws.length ≤ 1000000) (hl : lg.length < 1000000) (hi : p.wd j < ws.length) (y : Int) (hy : ws.getD (p.wd j) 0 = y) (hI : I64 y) (hc : stS y ≠ 0) (he : j + 1 ≠ p.ti)
    (h : Own w0 F0 (blk k (rcO c pp np cp pl nl cl p.st j false saw 0 false 0 0) :: memA T m ws lg :: L) w) :
    Calls Try.prog 43 #[.pointer (some ⟨k, 0, none⟩), .pointer (some ⟨m, 0, none⟩)] w fun en w' => en = .returned (.bool false) ∧
      Own w0 F0 (blk k (rcO c pp np cp pl nl cl p.st ((j : Int) + 1) false y 0 false 0 0) :: memA T m ws (lg ++ [⟨1, (p.wd j : Nat), y, 0, false⟩]) :: L) w' := by
  have HT := fun w => Lib.hid (rTicket_q (pp := pp) (np := np) (cp := cp) (pl := pl) (nl := nl) (cl := cl) c hr.hs hr.np12 (p.tic j) (by omega) (by have := tic_lt hp j; have := hp.t16; omega) w)
  rw [show lim c np + 2 * ((p.tic j : Nat) : Int) = ((p.wd j : Nat) : Int) by rw [hr.tk]; unfold CP.wd; omega] at HT
  have s0 : (0 : Int) ≤ (p.st : Int) + j := by omega
  have s1 := hp.s1
  have t1 := hp.t1
  have t16 := hp.t16
  have hwr : IntKind.i64.wrap ((p.st : Int) + (j : Int)) = (p.st : Int) + (j : Int) := IntWalk.i64_in _ (by omega)
  have htm : ((p.st : Int) + (j : Int)).tmod (p.ti : Int) = ((p.tic j : Nat) : Int) := by
    rw [Int.tmod_eq_emod_of_nonneg s0]; unfold CP.tic; rw [Int.natCast_emod, Int.natCast_add]
  have hz : ((p.ti : Int) == 0) = false := by simp; omega
  have hz2 : ¬ (p.ti : Int) = 0 := by omega
  have hti := hr.ti
  have hwd := hi
  have HL := fun L w h => Lib.hid (rLoad_z11 (w0 := w0) (F0 := F0) (L := L) (T := T) (m := m) (ws := ws) (lg := lg) (w := w) (p.wd j) y hy hi hl h)
  have HS := fun w => Lib.hid (rState_any y hI w)
  have hd : (stS y != 0) = true := by rw [bne_iff_ne]; exact hc
  have HN := fun w h => Lib.hid (rcNext_more (w0 := w0) (F0 := F0) (L := memA T m ws (lg ++ [⟨1, (p.wd j : Nat), y, 0, false⟩]) :: L) (k := k) (c := c) (pp := pp) (np := np) (cp := cp) (pl := pl) (nl := nl) (cl := cl) (st := p.st) (saw := y) (w := w) true j p.ti (by omega) (by omega) hti (by omega) h)
  generalize stS y = Y at HS hd
  clear hc hI hy he
  obtain ⟨c0, c1, c2, c3, c4, c5, c6, c7, c8, c9, c10, c11, c12, c13, c14, c15, c16, c17, cf⟩ := rcCells h
  rw [hti] at c5
  have HQ := Lib.hid (fun q => h.drewN q)
  have Hti := Lib.hid hti
  clear h hl hn hi hr hp hj hti hwd s0 s1
  generalize hW : p.wd j = W at *
  generalize hK : p.tic j = K at *
  clear hW hK
  generalize (p.st : Int) = S0 at *
  generalize p.ti = TI at *
  go_enter Try.func43, Try.ntmps43
  go_wp2_with fail
  go_quiet (fail)
  have h3 := HQ.out nq
  have H3 := Lib.hid h3
  clear HQ c0 c1 c2 c3 c4 c5 c6 c7 c8 c9 c10 c11 c12 c13 c14 c15 c16 c17 cf
  generalize World.drewN w nq = w3 at *
  obtain ⟨c0, c1, c2, c3, c4, c5, c6, c7, c8, c9, c10, c11, c12, c13, c14, c15, c16, c17, cf⟩ := rcCells h3
  rw [Hti.out] at c5
  clear h3
  go_wp2_with fail
  rw [← Hti.out]
  refine (HT _).out.mono ?_
  rintro e1 w4 ⟨rfl, hB⟩
  have h5 := H3.out.below hB
  clear H3 hB c0 c1 c2 c3 c4 c5 c6 c7 c8 c9 c10 c11 c12 c13 c14 c15 c16 c17 cf
  obtain ⟨c0, c1, c2, c3, c4, c5, c6, c7, c8, c9, c10, c11, c12, c13, c14, c15, c16, c17, cf⟩ := rcCells h5
  rw [Hti.out] at c5
  have HLd := HL _ _ h5.swap
  clear h5 HL
  rw [Hti.out]
  go_wp2_with fail
  refine HLd.out.mono ?_
  rintro e1 w5 ⟨rfl, hM⟩
  have hM := hM.swap
  clear HLd c0 c1 c2 c3 c4 c5 c6 c7 c8 c9 c10 c11 c12 c13 c14 c15 c16 c17 cf
  obtain ⟨c0, c1, c2, c3, c4, c5, c6, c7, c8, c9, c10, c11, c12, c13, c14, c15, c16, c17, cf⟩ := rcCells hM
  rw [Hti.out] at c5
  have H6 := Lib.hid ((hM.set 11 (.int .i64 y)).set 10 (.bool true))
  clear hM
  go_wp2_with fail
  have h7 : Own w0 F0 (blk k (rcO c pp np cp pl nl cl S0 j true y 0 false 0 0) :: memA T m ws (lg ++ [⟨1, W, y, 0, false⟩]) :: L) _ := H6.out
  generalize World.setCell _ _ _ = w7 at h7 ⊢
  clear H6 c0 c1 c2 c3 c4 c5 c6 c7 c8 c9 c10 c11 c12 c13 c14 c15 c16 c17 cf
  obtain ⟨c0, c1, c2, c3, c4, c5, c6, c7, c8, c9, c10, c11, c12, c13, c14, c15, c16, c17, cf⟩ := rcCells h7
  rw [Hti.out] at c5
  have H7 := Lib.hid h7
  clear h7
  go_wp2_with fail
  refine (HS _).out.mono ?_
  rintro e1 w8 ⟨rfl, hB⟩
  have h8 := H7.out.below hB
  clear H7 hB c0 c1 c2 c3 c4 c5 c6 c7 c8 c9 c10 c11 c12 c13 c14 c15 c16 c17 cf
  obtain ⟨c0, c1, c2, c3, c4, c5, c6, c7, c8, c9, c10, c11, c12, c13, c14, c15, c16, c17, cf⟩ := rcCells h8
  rw [Hti.out] at c5
  have H8 := Lib.hid h8
  clear h8
  go_wp2_with fail
  refine (HN _ H8.out).out.mono ?_
  rintro e1 w9 ⟨rfl, h9⟩
  clear H8 c0 c1 c2 c3 c4 c5 c6 c7 c8 c9 c10 c11 c12 c13 c14 c15 c16 c17 cf
  obtain ⟨c0, c1, c2, c3, c4, c5, c6, c7, c8, c9, c10, c11, c12, c13, c14, c15, c16, c17, cf⟩ := rcCells h9
  have H9 := Lib.hid h9
  clear h9
  go_wp2_with fail
  go_ret
  exact ⟨rfl, H9.out⟩

set_option maxHeartbeats 2000000 in
theorem rcLoad_end (j : Nat) (hr : RcOk c np p) (hp : p.Ok) (hj : j < p.ti) (hn : ws.length ≤ 1000000) (hl : lg.length < 1000000) (hi : p.wd j < ws.length) (y : Int) (hy : ws.getD (p.wd j) 0 = y) (hI : I64 y) (hc : stS y ≠ 0) (he : j + 1 = p.ti)
    (h : Own w0 F0 (blk k (rcO c pp np cp pl nl cl p.st j false saw 0 false 0 0) :: memA T m ws lg :: L) w) :
    Calls Try.prog 43 #[.pointer (some ⟨k, 0, none⟩), .pointer (some ⟨m, 0, none⟩)] w fun en w' => en = .returned (.bool true) ∧
      Own w0 F0 (blk k (rcO c pp np cp pl nl cl p.st ((j : Int) + 1) false y 0 true 3 0) :: memA T m ws (lg ++ [⟨1, (p.wd j : Nat), y, 0, false⟩]) :: L) w' := by
  have HT := fun w => Lib.hid (rTicket_q (pp := pp) (np := np) (cp := cp) (pl := pl) (nl := nl) (cl := cl) c hr.hs hr.np12 (p.tic j) (by omega) (by have := tic_lt hp j; have := hp.t16; omega) w)
  rw [show lim c np + 2 * ((p.tic j : Nat) : Int) = ((p.wd j : Nat) : Int) by rw [hr.tk]; unfold CP.wd; omega] at HT
  have s0 : (0 : Int) ≤ (p.st : Int) + j := by omega
  have s1 := hp.s1
  have t1 := hp.t1
  have t16 := hp.t16
  have hwr : IntKind.i64.wrap ((p.st : Int) + (j : Int)) = (p.st : Int) + (j : Int) := IntWalk.i64_in _ (by omega)
  have htm : ((p.st : Int) + (j : Int)).tmod (p.ti : Int) = ((p.tic j : Nat) : Int) := by
    rw [Int.tmod_eq_emod_of_nonneg s0]; unfold CP.tic; rw [Int.natCast_emod, Int.natCast_add]
  have hz : ((p.ti : Int) == 0) = false := by simp; omega
  have hz2 : ¬ (p.ti : Int) = 0 := by omega
  have hti := hr.ti
  have hwd := hi
  have HL := fun L w h => Lib.hid (rLoad_z11 (w0 := w0) (F0 := F0) (L := L) (T := T) (m := m) (ws := ws) (lg := lg) (w := w) (p.wd j) y hy hi hl h)
  have HS := fun w => Lib.hid (rState_any y hI w)
  have hd : (stS y != 0) = true := by rw [bne_iff_ne]; exact hc
  have HN := fun w h => Lib.hid (rcNext_end (w0 := w0) (F0 := F0) (L := memA T m ws (lg ++ [⟨1, (p.wd j : Nat), y, 0, false⟩]) :: L) (k := k) (c := c) (pp := pp) (np := np) (cp := cp) (pl := pl) (nl := nl) (cl := cl) (st := p.st) (saw := y) (w := w) true j p.ti (by omega) (by omega) hti (by omega) h)
  generalize stS y = Y at HS hd
  clear hc hI hy he
  obtain ⟨c0, c1, c2, c3, c4, c5, c6, c7, c8, c9, c10, c11, c12, c13, c14, c15, c16, c17, cf⟩ := rcCells h
  rw [hti] at c5
  have HQ := Lib.hid (fun q => h.drewN q)
  have Hti := Lib.hid hti
  clear h hl hn hi hr hp hj hti hwd s0 s1
  generalize hW : p.wd j = W at *
  generalize hK : p.tic j = K at *
  clear hW hK
  generalize (p.st : Int) = S0 at *
  generalize p.ti = TI at *
  go_enter Try.func43, Try.ntmps43
  go_wp2_with fail
  go_quiet (fail)
  have h3 := HQ.out nq
  have H3 := Lib.hid h3
  clear HQ c0 c1 c2 c3 c4 c5 c6 c7 c8 c9 c10 c11 c12 c13 c14 c15 c16 c17 cf
  generalize World.drewN w nq = w3 at *
  obtain ⟨c0, c1, c2, c3, c4, c5, c6, c7, c8, c9, c10, c11, c12, c13, c14, c15, c16, c17, cf⟩ := rcCells h3
  rw [Hti.out] at c5
  clear h3
  go_wp2_with fail
  rw [← Hti.out]
  refine (HT _).out.mono ?_
  rintro e1 w4 ⟨rfl, hB⟩
  have h5 := H3.out.below hB
  clear H3 hB c0 c1 c2 c3 c4 c5 c6 c7 c8 c9 c10 c11 c12 c13 c14 c15 c16 c17 cf
  obtain ⟨c0, c1, c2, c3, c4, c5, c6, c7, c8, c9, c10, c11, c12, c13, c14, c15, c16, c17, cf⟩ := rcCells h5
  rw [Hti.out] at c5
  have HLd := HL _ _ h5.swap
  clear h5 HL
  rw [Hti.out]
  go_wp2_with fail
  refine HLd.out.mono ?_
  rintro e1 w5 ⟨rfl, hM⟩
  have hM := hM.swap
  clear HLd c0 c1 c2 c3 c4 c5 c6 c7 c8 c9 c10 c11 c12 c13 c14 c15 c16 c17 cf
  obtain ⟨c0, c1, c2, c3, c4, c5, c6, c7, c8, c9, c10, c11, c12, c13, c14, c15, c16, c17, cf⟩ := rcCells hM
  rw [Hti.out] at c5
  have H6 := Lib.hid ((hM.set 11 (.int .i64 y)).set 10 (.bool true))
  clear hM
  go_wp2_with fail
  have h7 : Own w0 F0 (blk k (rcO c pp np cp pl nl cl S0 j true y 0 false 0 0) :: memA T m ws (lg ++ [⟨1, W, y, 0, false⟩]) :: L) _ := H6.out
  generalize World.setCell _ _ _ = w7 at h7 ⊢
  clear H6 c0 c1 c2 c3 c4 c5 c6 c7 c8 c9 c10 c11 c12 c13 c14 c15 c16 c17 cf
  obtain ⟨c0, c1, c2, c3, c4, c5, c6, c7, c8, c9, c10, c11, c12, c13, c14, c15, c16, c17, cf⟩ := rcCells h7
  rw [Hti.out] at c5
  have H7 := Lib.hid h7
  clear h7
  go_wp2_with fail
  refine (HS _).out.mono ?_
  rintro e1 w8 ⟨rfl, hB⟩
  have h8 := H7.out.below hB
  clear H7 hB c0 c1 c2 c3 c4 c5 c6 c7 c8 c9 c10 c11 c12 c13 c14 c15 c16 c17 cf
  obtain ⟨c0, c1, c2, c3, c4, c5, c6, c7, c8, c9, c10, c11, c12, c13, c14, c15, c16, c17, cf⟩ := rcCells h8
  rw [Hti.out] at c5
  have H8 := Lib.hid h8
  clear h8
  go_wp2_with fail
  refine (HN _ H8.out).out.mono ?_
  rintro e1 w9 ⟨rfl, h9⟩
  clear H8 c0 c1 c2 c3 c4 c5 c6 c7 c8 c9 c10 c11 c12 c13 c14 c15 c16 c17 cf
  obtain ⟨c0, c1, c2, c3, c4, c5, c6, c7, c8, c9, c10, c11, c12, c13, c14, c15, c16, c17, cf⟩ := rcCells h9
  have H9 := Lib.hid h9
  clear h9
  go_wp2_with fail
  go_ret
  exact ⟨rfl, H9.out⟩

set_option maxHeartbeats 2000000 in
theorem rcCas_yes (j : Nat) (hr : RcOk c np p) (hp : p.Ok) (hj : j < p.ti) (hn : ws.length ≤ 1000000) (hl : lg.length < 1000000) (hi : p.wd j < ws.length) (hI : I64 saw) (hc : ws.getD (p.wd j) 0 = saw)
    (h : Own w0 F0 (blk k (rcO c pp np cp pl nl cl p.st j true saw 0 false 0 0) :: memA T m ws lg :: L) w) :
    Calls Try.prog 43 #[.pointer (some ⟨k, 0, none⟩), .pointer (some ⟨m, 0, none⟩)] w fun en w' => en = .returned (.bool true) ∧
      Own w0 F0 (blk k (rcO c pp np cp pl nl cl p.st j true saw (tnW saw 1) true 0 (p.tic j : Nat)) :: memA T m (ws.set (p.wd j) (tnW saw 1)) (lg ++ [⟨3, (p.wd j : Nat), saw, tnW saw 1, true⟩]) :: L) w' := by
  have HT := fun w => Lib.hid (rTicket_q (pp := pp) (np := np) (cp := cp) (pl := pl) (nl := nl) (cl := cl) c hr.hs hr.np12 (p.tic j) (by omega) (by have := tic_lt hp j; have := hp.t16; omega) w)
  rw [show lim c np + 2 * ((p.tic j : Nat) : Int) = ((p.wd j : Nat) : Int) by rw [hr.tk]; unfold CP.wd; omega] at HT
  have s0 : (0 : Int) ≤ (p.st : Int) + j := by omega
  have s1 := hp.s1
  have t1 := hp.t1
  have t16 := hp.t16
  have hwr : IntKind.i64.wrap ((p.st : Int) + (j : Int)) = (p.st : Int) + (j : Int) := IntWalk.i64_in _ (by omega)
  have htm : ((p.st : Int) + (j : Int)).tmod (p.ti : Int) = ((p.tic j : Nat) : Int) := by
    rw [Int.tmod_eq_emod_of_nonneg s0]; unfold CP.tic; rw [Int.natCast_emod, Int.natCast_add]
  have hz : ((p.ti : Int) == 0) = false := by simp; omega
  have hz2 : ¬ (p.ti : Int) = 0 := by omega
  have hti := hr.ti
  have hwd := hi
  have HC := fun L w h => Lib.hid (rCas_yes (w0 := w0) (F0 := F0) (L := L) (T := T) (m := m) (ws := ws) (l := lg) (w := w) (p.wd j) saw (tnW saw 1) hi hn hl hc h)
  have HTn := fun w => Lib.hid (rTurn_any saw 1 hI (by unfold W64; decide) w)
  rw [show tnV saw 1 = tnW saw 1 from if_pos (by decide), show tnB 1 = true from by decide] at HTn
  generalize htn : tnW saw 1 = N1 at *
  clear htn
  clear hc
  obtain ⟨c0, c1, c2, c3, c4, c5, c6, c7, c8, c9, c10, c11, c12, c13, c14, c15, c16, c17, cf⟩ := rcCells h
  rw [hti] at c5
  have HQ := Lib.hid (fun q => h.drewN q)
  have Hti := Lib.hid hti
  clear h hl hn hi hr hp hj hti hwd s0 s1
  generalize hW : p.wd j = W at *
  generalize hK : p.tic j = K at *
  clear hW hK
  generalize (p.st : Int) = S0 at *
  generalize p.ti = TI at *
  go_enter Try.func43, Try.ntmps43
  go_wp2_with fail
  go_quiet (fail)
  have h3 := HQ.out nq
  have H3 := Lib.hid h3
  clear HQ c0 c1 c2 c3 c4 c5 c6 c7 c8 c9 c10 c11 c12 c13 c14 c15 c16 c17 cf
  generalize World.drewN w nq = w3 at *
  obtain ⟨c0, c1, c2, c3, c4, c5, c6, c7, c8, c9, c10, c11, c12, c13, c14, c15, c16, c17, cf⟩ := rcCells h3
  rw [Hti.out] at c5
  clear h3
  go_wp2_with fail
  refine (HTn _).out.mono ?_
  rintro e1 w4 ⟨rfl, hB⟩
  have h5 := H3.out.below hB
  clear H3 hB c0 c1 c2 c3 c4 c5 c6 c7 c8 c9 c10 c11 c12 c13 c14 c15 c16 c17 cf
  obtain ⟨c0, c1, c2, c3, c4, c5, c6, c7, c8, c9, c10, c11, c12, c13, c14, c15, c16, c17, cf⟩ := rcCells h5
  have hO := h5.drew
  clear h5
  go_wp2_with fail
  go_region_held3 (fun w' => w'.cell? ⟨k, 0, none⟩ = some (.int .i64 c.th) ∧ w'.cell? ⟨k, 1, none⟩ = some (.int .i64 c.st) ∧ w'.cell? ⟨k, 2, none⟩ = some (.int .i64 c.ga) ∧ w'.cell? ⟨k, 3, none⟩ = some (.int .i64 c.le) ∧ w'.cell? ⟨k, 4, none⟩ = some (.int .i64 c.re) ∧ w'.cell? ⟨k, 5, none⟩ = some (.int .i64 c.ti) ∧ w'.cell? ⟨k, 6, none⟩ = some (.slice pp np cp) ∧ w'.cell? ⟨k, 7, none⟩ = some (.slice pl nl cl) ∧ w'.cell? ⟨k, 11, none⟩ = some (.int .i64 saw)) (go_keep) (first | (go_at_call 27; refine (HT _).out.mono ?_; rintro e1 w5 ⟨rfl, hB⟩; have hO := Own.below hO hB; obtain ⟨c0, c1, c2, c3, c4, c5, c6, c7, c8, c9, c10, c11, c12, c13, c14, c15, c16, c17, cf⟩ := rcCells hO) | (go_at_call 73; with_reducible refine Calls.mono (Hid.out (HC _ _ hO.swap)) ?_; rintro e1 w6 ⟨rfl, hM⟩; obtain ⟨c0, c1, c2, c3, c4, c5, c6, c7, c8, c9, c10, c11, c12, c13, c14, c15, c16, c17, cf⟩ := rcCells hM.swap))
  all_goals
    have H6 := Lib.hid ((((((hM.swap.set 14 (.int .i64 0)).set 15 (.int .i64 K)).set 16 (.bool false)).set 17 (.int .i64 0)).set 12 (.int .i64 N1)).set 13 (.bool true))
    clear hM hO HC
    go_wp2_with fail
    go_ret
    exact ⟨rfl, H6.out⟩

set_option maxHeartbeats 2000000 in
theorem rcCas_more (j : Nat) (hr : RcOk c np p) (hp : p.Ok) (hj : j < p.ti) (hn : ws.length ≤ 1000000) (hl : lg.length < 1000000) (hi : p.wd j < ws.length) (hI : I64 saw) (hc : ws.getD (p.wd j) 0 ≠ saw) (he : j + 1 ≠ p.ti)
    (h : Own w0 F0 (blk k (rcO c pp np cp pl nl cl p.st j true saw 0 false 0 0) :: memA T m ws lg :: L) w) :
    Calls Try.prog 43 #[.pointer (some ⟨k, 0, none⟩), .pointer (some ⟨m, 0, none⟩)] w fun en w' => en = .returned (.bool false) ∧
      Own w0 F0 (blk k (rcO c pp np cp pl nl cl p.st ((j : Int) + 1) false saw 0 false 0 0) :: memA T m ws (lg ++ [⟨3, (p.wd j : Nat), saw, tnW saw 1, false⟩]) :: L) w' := by
  have HT := fun w => Lib.hid (rTicket_q (pp := pp) (np := np) (cp := cp) (pl := pl) (nl := nl) (cl := cl) c hr.hs hr.np12 (p.tic j) (by omega) (by have := tic_lt hp j; have := hp.t16; omega) w)
  rw [show lim c np + 2 * ((p.tic j : Nat) : Int) = ((p.wd j : Nat) : Int) by rw [hr.tk]; unfold CP.wd; omega] at HT
  have s0 : (0 : Int) ≤ (p.st : Int) + j := by omega
  have s1 := hp.s1
  have t1 := hp.t1
  have t16 := hp.t16
  have hwr : IntKind.i64.wrap ((p.st : Int) + (j : Int)) = (p.st : Int) + (j : Int) := IntWalk.i64_in _ (by omega)
  have htm : ((p.st : Int) + (j : Int)).tmod (p.ti : Int) = ((p.tic j : Nat) : Int) := by
    rw [Int.tmod_eq_emod_of_nonneg s0]; unfold CP.tic; rw [Int.natCast_emod, Int.natCast_add]
  have hz : ((p.ti : Int) == 0) = false := by simp; omega
  have hz2 : ¬ (p.ti : Int) = 0 := by omega
  have hti := hr.ti
  have hwd := hi
  have HC := fun L w h => Lib.hid (rCas_no (w0 := w0) (F0 := F0) (L := L) (T := T) (m := m) (ws := ws) (l := lg) (w := w) (p.wd j) saw (tnW saw 1) hi hl hc h)
  have HN := fun w h => Lib.hid (rcNext_more (w0 := w0) (F0 := F0) (L := memA T m ws (lg ++ [⟨3, (p.wd j : Nat), saw, tnW saw 1, false⟩]) :: L) (k := k) (c := c) (pp := pp) (np := np) (cp := cp) (pl := pl) (nl := nl) (cl := cl) (st := p.st) (saw := saw) (w := w) true j p.ti (by omega) (by omega) hti (by omega) h)
  have HTn := fun w => Lib.hid (rTurn_any saw 1 hI (by unfold W64; decide) w)
  rw [show tnV saw 1 = tnW saw 1 from if_pos (by decide), show tnB 1 = true from by decide] at HTn
  generalize htn : tnW saw 1 = N1 at *
  clear htn
  clear hc he
  obtain ⟨c0, c1, c2, c3, c4, c5, c6, c7, c8, c9, c10, c11, c12, c13, c14, c15, c16, c17, cf⟩ := rcCells h
  rw [hti] at c5
  have HQ := Lib.hid (fun q => h.drewN q)
  have Hti := Lib.hid hti
  clear h hl hn hi hr hp hj hti hwd s0 s1
  generalize hW : p.wd j = W at *
  generalize hK : p.tic j = K at *
  clear hW hK
  generalize (p.st : Int) = S0 at *
  generalize p.ti = TI at *
  go_enter Try.func43, Try.ntmps43
  go_wp2_with fail
  go_quiet (fail)
  have h3 := HQ.out nq
  have H3 := Lib.hid h3
  clear HQ c0 c1 c2 c3 c4 c5 c6 c7 c8 c9 c10 c11 c12 c13 c14 c15 c16 c17 cf
  generalize World.drewN w nq = w3 at *
  obtain ⟨c0, c1, c2, c3, c4, c5, c6, c7, c8, c9, c10, c11, c12, c13, c14, c15, c16, c17, cf⟩ := rcCells h3
  rw [Hti.out] at c5
  clear h3
  go_wp2_with fail
  refine (HTn _).out.mono ?_
  rintro e1 w4 ⟨rfl, hB⟩
  have h5 := H3.out.below hB
  clear H3 hB c0 c1 c2 c3 c4 c5 c6 c7 c8 c9 c10 c11 c12 c13 c14 c15 c16 c17 cf
  obtain ⟨c0, c1, c2, c3, c4, c5, c6, c7, c8, c9, c10, c11, c12, c13, c14, c15, c16, c17, cf⟩ := rcCells h5
  have hO := h5.drew
  clear h5
  go_wp2_with fail
  go_region_held3 (fun w' => w'.cell? ⟨k, 0, none⟩ = some (.int .i64 c.th) ∧ w'.cell? ⟨k, 1, none⟩ = some (.int .i64 c.st) ∧ w'.cell? ⟨k, 2, none⟩ = some (.int .i64 c.ga) ∧ w'.cell? ⟨k, 3, none⟩ = some (.int .i64 c.le) ∧ w'.cell? ⟨k, 4, none⟩ = some (.int .i64 c.re) ∧ w'.cell? ⟨k, 5, none⟩ = some (.int .i64 c.ti) ∧ w'.cell? ⟨k, 6, none⟩ = some (.slice pp np cp) ∧ w'.cell? ⟨k, 7, none⟩ = some (.slice pl nl cl) ∧ w'.cell? ⟨k, 11, none⟩ = some (.int .i64 saw)) (go_keep) (first | (go_at_call 27; refine (HT _).out.mono ?_; rintro e1 w5 ⟨rfl, hB⟩; have hO := Own.below hO hB; obtain ⟨c0, c1, c2, c3, c4, c5, c6, c7, c8, c9, c10, c11, c12, c13, c14, c15, c16, c17, cf⟩ := rcCells hO) | (go_at_call 73; with_reducible refine Calls.mono (Hid.out (HC _ _ hO.swap)) ?_; rintro e1 w6 ⟨rfl, hM⟩; obtain ⟨c0, c1, c2, c3, c4, c5, c6, c7, c8, c9, c10, c11, c12, c13, c14, c15, c16, c17, cf⟩ := rcCells hM.swap))
  all_goals
    have hM := hM.swap
    have HM := Lib.hid hM
    clear hM hO HC
    go_wp2_with fail
    refine (HN _ HM.out).out.mono ?_
    rintro e1 w9 ⟨rfl, h9⟩
    clear HM c0 c1 c2 c3 c4 c5 c6 c7 c8 c9 c10 c11 c12 c13 c14 c15 c16 c17 cf
    obtain ⟨c0, c1, c2, c3, c4, c5, c6, c7, c8, c9, c10, c11, c12, c13, c14, c15, c16, c17, cf⟩ := rcCells h9
    have H9 := Lib.hid h9
    clear h9
    go_wp2_with fail
    go_ret
    exact ⟨rfl, H9.out⟩

set_option maxHeartbeats 2000000 in
theorem rcCas_end (j : Nat) (hr : RcOk c np p) (hp : p.Ok) (hj : j < p.ti) (hn : ws.length ≤ 1000000) (hl : lg.length < 1000000) (hi : p.wd j < ws.length) (hI : I64 saw) (hc : ws.getD (p.wd j) 0 ≠ saw) (he : j + 1 = p.ti)
    (h : Own w0 F0 (blk k (rcO c pp np cp pl nl cl p.st j true saw 0 false 0 0) :: memA T m ws lg :: L) w) :
    Calls Try.prog 43 #[.pointer (some ⟨k, 0, none⟩), .pointer (some ⟨m, 0, none⟩)] w fun en w' => en = .returned (.bool true) ∧
      Own w0 F0 (blk k (rcO c pp np cp pl nl cl p.st ((j : Int) + 1) false saw 0 true 3 0) :: memA T m ws (lg ++ [⟨3, (p.wd j : Nat), saw, tnW saw 1, false⟩]) :: L) w' := by
  have HT := fun w => Lib.hid (rTicket_q (pp := pp) (np := np) (cp := cp) (pl := pl) (nl := nl) (cl := cl) c hr.hs hr.np12 (p.tic j) (by omega) (by have := tic_lt hp j; have := hp.t16; omega) w)
  rw [show lim c np + 2 * ((p.tic j : Nat) : Int) = ((p.wd j : Nat) : Int) by rw [hr.tk]; unfold CP.wd; omega] at HT
  have s0 : (0 : Int) ≤ (p.st : Int) + j := by omega
  have s1 := hp.s1
  have t1 := hp.t1
  have t16 := hp.t16
  have hwr : IntKind.i64.wrap ((p.st : Int) + (j : Int)) = (p.st : Int) + (j : Int) := IntWalk.i64_in _ (by omega)
  have htm : ((p.st : Int) + (j : Int)).tmod (p.ti : Int) = ((p.tic j : Nat) : Int) := by
    rw [Int.tmod_eq_emod_of_nonneg s0]; unfold CP.tic; rw [Int.natCast_emod, Int.natCast_add]
  have hz : ((p.ti : Int) == 0) = false := by simp; omega
  have hz2 : ¬ (p.ti : Int) = 0 := by omega
  have hti := hr.ti
  have hwd := hi
  have HC := fun L w h => Lib.hid (rCas_no (w0 := w0) (F0 := F0) (L := L) (T := T) (m := m) (ws := ws) (l := lg) (w := w) (p.wd j) saw (tnW saw 1) hi hl hc h)
  have HN := fun w h => Lib.hid (rcNext_end (w0 := w0) (F0 := F0) (L := memA T m ws (lg ++ [⟨3, (p.wd j : Nat), saw, tnW saw 1, false⟩]) :: L) (k := k) (c := c) (pp := pp) (np := np) (cp := cp) (pl := pl) (nl := nl) (cl := cl) (st := p.st) (saw := saw) (w := w) true j p.ti (by omega) (by omega) hti (by omega) h)
  have HTn := fun w => Lib.hid (rTurn_any saw 1 hI (by unfold W64; decide) w)
  rw [show tnV saw 1 = tnW saw 1 from if_pos (by decide), show tnB 1 = true from by decide] at HTn
  generalize htn : tnW saw 1 = N1 at *
  clear htn
  clear hc he
  obtain ⟨c0, c1, c2, c3, c4, c5, c6, c7, c8, c9, c10, c11, c12, c13, c14, c15, c16, c17, cf⟩ := rcCells h
  rw [hti] at c5
  have HQ := Lib.hid (fun q => h.drewN q)
  have Hti := Lib.hid hti
  clear h hl hn hi hr hp hj hti hwd s0 s1
  generalize hW : p.wd j = W at *
  generalize hK : p.tic j = K at *
  clear hW hK
  generalize (p.st : Int) = S0 at *
  generalize p.ti = TI at *
  go_enter Try.func43, Try.ntmps43
  go_wp2_with fail
  go_quiet (fail)
  have h3 := HQ.out nq
  have H3 := Lib.hid h3
  clear HQ c0 c1 c2 c3 c4 c5 c6 c7 c8 c9 c10 c11 c12 c13 c14 c15 c16 c17 cf
  generalize World.drewN w nq = w3 at *
  obtain ⟨c0, c1, c2, c3, c4, c5, c6, c7, c8, c9, c10, c11, c12, c13, c14, c15, c16, c17, cf⟩ := rcCells h3
  rw [Hti.out] at c5
  clear h3
  go_wp2_with fail
  refine (HTn _).out.mono ?_
  rintro e1 w4 ⟨rfl, hB⟩
  have h5 := H3.out.below hB
  clear H3 hB c0 c1 c2 c3 c4 c5 c6 c7 c8 c9 c10 c11 c12 c13 c14 c15 c16 c17 cf
  obtain ⟨c0, c1, c2, c3, c4, c5, c6, c7, c8, c9, c10, c11, c12, c13, c14, c15, c16, c17, cf⟩ := rcCells h5
  have hO := h5.drew
  clear h5
  go_wp2_with fail
  go_region_held3 (fun w' => w'.cell? ⟨k, 0, none⟩ = some (.int .i64 c.th) ∧ w'.cell? ⟨k, 1, none⟩ = some (.int .i64 c.st) ∧ w'.cell? ⟨k, 2, none⟩ = some (.int .i64 c.ga) ∧ w'.cell? ⟨k, 3, none⟩ = some (.int .i64 c.le) ∧ w'.cell? ⟨k, 4, none⟩ = some (.int .i64 c.re) ∧ w'.cell? ⟨k, 5, none⟩ = some (.int .i64 c.ti) ∧ w'.cell? ⟨k, 6, none⟩ = some (.slice pp np cp) ∧ w'.cell? ⟨k, 7, none⟩ = some (.slice pl nl cl) ∧ w'.cell? ⟨k, 11, none⟩ = some (.int .i64 saw)) (go_keep) (first | (go_at_call 27; refine (HT _).out.mono ?_; rintro e1 w5 ⟨rfl, hB⟩; have hO := Own.below hO hB; obtain ⟨c0, c1, c2, c3, c4, c5, c6, c7, c8, c9, c10, c11, c12, c13, c14, c15, c16, c17, cf⟩ := rcCells hO) | (go_at_call 73; with_reducible refine Calls.mono (Hid.out (HC _ _ hO.swap)) ?_; rintro e1 w6 ⟨rfl, hM⟩; obtain ⟨c0, c1, c2, c3, c4, c5, c6, c7, c8, c9, c10, c11, c12, c13, c14, c15, c16, c17, cf⟩ := rcCells hM.swap))
  all_goals
    have hM := hM.swap
    have HM := Lib.hid hM
    clear hM hO HC
    go_wp2_with fail
    refine (HN _ HM.out).out.mono ?_
    rintro e1 w9 ⟨rfl, h9⟩
    clear HM c0 c1 c2 c3 c4 c5 c6 c7 c8 c9 c10 c11 c12 c13 c14 c15 c16 c17 cf
    obtain ⟨c0, c1, c2, c3, c4, c5, c6, c7, c8, c9, c10, c11, c12, c13, c14, c15, c16, c17, cf⟩ := rcCells h9
    have H9 := Lib.hid h9
    clear h9
    go_wp2_with fail
    go_ret
    exact ⟨rfl, H9.out⟩

end
end
section
open Go.ChangeShapes Go.WideShapes Go.ChangeAt Go.RowKit Go.Shelf
set_option linter.unusedVariables false
set_option maxRecDepth 100000
variable {w0 w w' : World} {F0 : Nat → Prop} {L : List Asn} {T : TypeId} {m : Nat} {ws : List Int} {lg : List Acc} {pp pl : Option Addr} {np cp nl cl : Nat}
def erC (s : CS) : Int := if s.fin = true ∧ s.ok = false then 3 else 0
def rcA (k : Nat) (c : Cf) (pp : Option Addr) (np cp : Nat) (pl : Option Addr) (nl cl : Nat) (p : CP) (s : CS) : Asn := blk k (rcO c pp np cp pl nl cl (p.st : Int) (s.j : Int) s.seen s.saw s.put s.fin (erC s) (s.n : Int))
def rclM (k : Nat) (c : Cf) (pp : Option Addr) (np cp : Nat) (pl : Option Addr) (nl cl : Nat) (p : CP) : Mach CS where
  asn s := rcA k c pp np cp pl nl cl p s
  step s ws lg := stepC p s ws lg
  ok s ws lg := p.Ok ∧ CW p ws ∧ CSOk p s ∧ lg.length < 1000000
theorem rcl_steps (k m : Nat) (c : Cf) (T : TypeId) (p : CP) (hr : RcOk c np p) : StepsBy w0 F0 (rclM k c pp np cp pl nl cl p) 43 (.pointer (some ⟨k, 0, none⟩)) T m := by
  intro L s ws lg w ⟨hp, hw, hs, hl⟩ h
  simp only [rclM] at h ⊢
  have hm : ws.length ≤ 1000000 := by have := hw.most; omega
  obtain ⟨j, seen, saw, fin, ok, n, put⟩ := s
  have hlt := hs.lt
  have hopen := hs.open_
  have hbad := hs.bad
  have hI := hs.saw
  have hsh := hs.shut
  simp only at hlt hopen hbad hI hsh
  have hwd := cwd_in hp hw j
  cases fin with
  | true =>
    refine (rc9_any _ h).mono ?_
    rintro e w' ⟨rfl, rfl⟩
    exact ⟨rfl, h⟩
  | false =>
    have hj := hlt rfl
    have ho := hopen rfl
    subst ho
    obtain ⟨rfl, rfl⟩ := hbad rfl
    have fj : ((j : Int) + 1) = ((j + 1 : Nat) : Int) := by omega
    cases seen with
    | false =>
      have h' : Own w0 F0 (blk k (rcO c pp np cp pl nl cl p.st j false saw 0 false 0 0) :: memA T m ws lg :: L) w := h
      by_cases hc : stS (ws.getD (p.wd j) 0) = 0
      · have e : stepC p ⟨j, false, saw, false, false, 0, 0⟩ ws lg = (⟨j, true, ws.getD (p.wd j) 0, false, false, 0, 0⟩, ws, lg ++ [⟨1, (p.wd j : Nat), ws.getD (p.wd j) 0, 0, false⟩], false) := by
          unfold stepC; rw [if_neg (by simp), if_neg (by simp), if_pos hc]
        rw [e]
        exact rcLoad_free j hr hp hj hm hl hwd _ rfl (hw.wf _) hc h'
      · have e : stepC p ⟨j, false, saw, false, false, 0, 0⟩ ws lg = (nextC p j (ws.getD (p.wd j) 0), ws, lg ++ [⟨1, (p.wd j : Nat), ws.getD (p.wd j) 0, 0, false⟩], decide (j + 1 = p.ti)) := by
          unfold stepC; rw [if_neg (by simp), if_neg (by simp), if_neg hc]
        rw [e]
        by_cases he : j + 1 = p.ti
        · rw [decide_eq_true he]
          have hK := rcLoad_end j hr hp hj hm hl hwd _ rfl (hw.wf _) hc he h'
          unfold nextC
          rw [decide_eq_true he]
          exact hK
        · rw [decide_eq_false he]
          have hK := rcLoad_more j hr hp hj hm hl hwd _ rfl (hw.wf _) hc he h'
          unfold nextC
          rw [decide_eq_false he]
          exact hK
    | true =>
      have h' : Own w0 F0 (blk k (rcO c pp np cp pl nl cl p.st j true saw 0 false 0 0) :: memA T m ws lg :: L) w := h
      by_cases hc : ws.getD (p.wd j) 0 = saw
      · have e : stepC p ⟨j, true, saw, false, false, 0, 0⟩ ws lg = (⟨j, true, saw, true, true, p.tic j, tnW saw 1⟩, ws.set (p.wd j) (tnW saw 1), lg ++ [⟨3, (p.wd j : Nat), saw, tnW saw 1, true⟩], true) := by
          unfold stepC; rw [if_neg (by simp), if_pos rfl, if_pos hc]
        rw [e]
        exact rcCas_yes j hr hp hj hm hl hwd hI hc h'
      · have e : stepC p ⟨j, true, saw, false, false, 0, 0⟩ ws lg = (nextC p j saw, ws, lg ++ [⟨3, (p.wd j : Nat), saw, tnW saw 1, false⟩], decide (j + 1 = p.ti)) := by
          unfold stepC; rw [if_neg (by simp), if_pos rfl, if_neg hc]
        rw [e]
        by_cases he : j + 1 = p.ti
        · rw [decide_eq_true he]
          have hK := rcCas_end j hr hp hj hm hl hwd hI hc he h'
          unfold nextC
          rw [decide_eq_true he]
          exact hK
        · rw [decide_eq_false he]
          have hK := rcCas_more j hr hp hj hm hl hwd hI hc he h'
          unfold nextC
          rw [decide_eq_false he]
          exact hK
theorem rcAns_any {k : Nat} {c : Cf} {p : CP} {s : CS} (h : Own w0 F0 (rcA k c pp np cp pl nl cl p s :: L) w) :
    Calls Try.prog 19 #[.pointer (some ⟨k, 0, none⟩)] w fun e w' => e = .returned (ansV (erC s) (s.n : Int) false 0) ∧ Below w.heap.size w w' := by
  obtain ⟨c0, c1, c2, c3, c4, c5, c6, c7, c8, c9, c10, c11, c12, c13, c14, c15, c16, c17, cf⟩ := rcCells h
  have hg : k < w.heap.size := h.inHeap
  generalize erC s = er at *
  generalize (s.n : Int) = nn at *
  have A3 : ∀ o, (w.alloc o).cell? ⟨k, 14, none⟩ = some (.int .i64 er) := fun o => (World.cell?_alloc_lt _ _ _ hg).trans c14
  have A4 : ∀ o, (w.alloc o).cell? ⟨k, 15, none⟩ = some (.int .i64 nn) := fun o => (World.cell?_alloc_lt _ _ _ hg).trans c15
  have A5 : ∀ o, (w.alloc o).cell? ⟨k, 16, none⟩ = some (.bool false) := fun o => (World.cell?_alloc_lt _ _ _ hg).trans c16
  have A6 : ∀ o, (w.alloc o).cell? ⟨k, 17, none⟩ = some (.int .i64 0) := fun o => (World.cell?_alloc_lt _ _ _ hg).trans c17
  have hB := Lib.hid (fun y z u v => ((Own.start w).alloc (.cells #[y, z, u, v] 46)).toBelow)
  unfold ansV
  clear h
  go_enter Try.func19, Try.ntmps19
  go_wp2_with fail
  (try simp only [Exit.inBlock, Exit.then])
  refine bodyPost_ret (by simp [results, Try.results19, go_sem, *]; try rfl) rfl ?_
  exact ⟨rfl, hB.out _ _ _ _⟩
theorem rcWord_any {k : Nat} {c : Cf} {p : CP} {s : CS} (h : Own w0 F0 (rcA k c pp np cp pl nl cl p s :: L) w) :
    Calls Try.prog 21 #[.pointer (some ⟨k, 0, none⟩)] w fun e w' => e = .returned (.int .i64 s.put) ∧ Below w.heap.size w w' := by
  have c12 : w.cell? ⟨k, 12, none⟩ = some (.int .i64 s.put) := h.cell (i := 12) rfl
  clear h
  go_enter Try.func21, Try.ntmps21
  go_wp2_with fail
  go_ret
  exact ⟨rfl, Below.refl _ _⟩
set_option maxHeartbeats 1000000 in
theorem rcNew_any (c : Cf) {vp vl : Value} (hs : c.Rt) (hp : ∀ w', Own w0 F0 L w' → IntsAt w' .i64 vp c.ps) (hl : ∀ w', Own w0 F0 L w' → IntsAt w' .i64 vl c.ls) (p : CP) (h : Own w0 F0 L w) :
    Calls Try.prog 14 #[cfV c vp vl, .int .i64 p.st] w fun e w' =>
      ∃ k a1 c1 a2 c2, e = .returned (.pointer (some ⟨k, 0, none⟩)) ∧ Own w0 F0 (rcA k c a1 c.ps.length c1 a2 c.ls.length c2 p s0C :: L) w' := by
  have h1 := h.new (cfO c vp vl)
  have HO := Lib.hid (rOwn_any (w := w.alloc (cfO c vp vl)) c (hp _ (h1.drop)) (hl _ (h1.drop)) (by have := hs.n0; omega) (by have := hs.n1; omega) (by have := hs.n0; have := hs.ll; omega) (by have := hs.n1; have := hs.ll; omega))
  have H1 := Lib.hid h1.drop
  have hc := conf_cells h1
  obtain ⟨d0, d1, d2, d3, d4, d5, d6, d7⟩ := hc
  clear h h1 hp hl hs
  go_enter Try.func14, Try.ntmps14
  go_wp2_with fail
  refine HO.out.mono ?_
  rintro e w1 ⟨a1, c1, a2, c2, rfl, hB⟩
  have HF := Lib.hid ((H1.out.below hB).new (rcO c a1 c.ps.length c1 a2 c.ls.length c2 p.st 0 false 0 0 false 0 0))
  unfold rcO at HF
  clear H1 hB HO d0 d1 d2 d3 d4 d5 d6 d7
  go_wp2_with fail
  go_ret
  exact ⟨_, a1, c1, a2, c2, rfl, HF.out⟩
end
section
open Go.ChangeShapes Go.WideShapes Go.ChangeAt Go.RowKit Go.Shelf
set_option linter.unusedVariables false
set_option linter.unusedSimpArgs false
set_option maxRecDepth 100000
variable {w w' W : World} {L : List Asn} {T : TypeId}
theorem rPokeW11 {w0 : World} {F0 : Nat → Prop} {m : Nat} {ws : List Int} {lg : List Acc} {q : Pk} (h0 : 0 ≤ q.w) (h1 : q.w < ws.length) (hn : ws.length ≤ 1000000) (h : Own w0 F0 (memA T m ws lg :: L) w) :
    Calls Try.prog 36 #[.pointer (some ⟨m, 0, none⟩), .int .i64 q.w, .int .i64 q.x] w fun e w' => e = .returned (.tuple #[]) ∧ Own w0 F0 (memA T m (pokeW ws q) lg :: L) w' := by
  have e : pokeW ws q = ws.set q.w.toNat q.x := if_pos ⟨h0, h1⟩
  have e2 : q.w = (q.w.toNat : Int) := by omega
  rw [e, e2]
  exact rPoke_any q.w.toNat q.x hn h
theorem beq_f11 {a b : Int} (h : ¬ a = b) : (a == b) = false := by rw [beq_eq_false_iff_ne]; exact h
set_option maxHeartbeats 4000000 in
theorem r11Play_any {σ : Type} (M : Mach σ) (okT : Nat → σ → List Int → List Acc → Prop) (k m N : Nat) (v : Value) (s : σ) (ws : List Int) (lg : List Acc) (l : List Pk) (most : Nat) (hl : l.length ≤ 1000) (hm : most ≤ 1000) (hN : N ≤ 1000000)
    (hst : StepsBy W NoF M 43 (.pointer (some ⟨k, 0, none⟩)) T m)
    (hln : ∀ t s ws lg, okT t s ws lg → ws.length = N) (hok : ∀ (t : Nat) s ws lg, t < most → okT t s ws lg → M.ok s (pokesAt t l ws) lg)
    (hnx : ∀ (t : Nat) s ws lg, t < most → okT t s ws lg → (M.step s (pokesAt t l ws) lg).2.2.2 = false → okT (t + 1) (M.step s (pokesAt t l ws) lg).1 (M.step s (pokesAt t l ws) lg).2.1 (M.step s (pokesAt t l ws) lg).2.2.1)
    (h0 : okT 0 s ws lg) (hv0 : PksAt w v l) (hv : ∀ (X Y : Asn) w', Own W NoF (X :: Y :: L) w' → PksAt w' v l) (h : Own W NoF (M.asn s :: memA T m ws lg :: L) w) :
    Calls Try.prog 17 #[.pointer (some ⟨m, 0, none⟩), .pointer (some ⟨k, 0, none⟩), v, .int .i64 most] w fun e w' =>
      e = .returned (.tuple #[.int .i64 (playF M l most 0 s ws lg).1, .bool (playF M l most 0 s ws lg).2.1]) ∧
      Own W NoF (M.asn (playF M l most 0 s ws lg).2.2.1 :: memA T m (playF M l most 0 s ws lg).2.2.2.1 (playF M l most 0 s ws lg).2.2.2.2 :: L) w' := by
  obtain ⟨R, hR⟩ : ∃ R, R = playF M l most 0 s ws lg := ⟨_, rfl⟩
  rw [← hR]
  have HR := Lib.hid hR
  have H0 := Lib.hid h0
  have HO := Lib.hid h
  have HV := Lib.hid hv
  have HLN := Lib.hid hln
  have HOK := Lib.hid hok
  have HNX := Lib.hid hnx
  have HST0 := Lib.hid hst
  obtain ⟨pv, cv, rfl⟩ := hv0.slice
  clear hR h0 h hv hv0 hln hok hnx hst
  go_enter Try.func17, Try.ntmps17
  go_wp2_with fail
  go_loopw [10, 11] (fun v10 v11 wr => ∃ (t : Nat) (s : σ) (ws : List Int) (lg : List Acc), t ≤ most ∧ v10 = .int .i64 t ∧ okT t s ws lg ∧ playF M l (most - t) t s ws lg = R ∧ Own W NoF (M.asn s :: memA T m ws lg :: L) wr) (fun v10 v11 _ => most - (intOf v10).toNat)
  case atStart => exact ⟨0, s, ws, lg, Nat.zero_le _, rfl, H0.out, HR.out.symm, HO.out⟩
  case round =>
    clear HR H0 HO
    obtain ⟨t, s, ws, lg, ht, rfl, hs, hpl, hO⟩ := hrel
    have HS := Lib.hid hs
    have Hpl := Lib.hid hpl
    have HO := Lib.hid hO
    clear hs hpl hO
    by_cases hlt : t < most
    · have hf : decide ((t : Int) < (most : Int)) = true := by simp; omega
      have hf2 : decide (t < most) = true := by simp; omega
      have Hlt := Lib.hid hlt
      clear hlt
      go_wp2_with fail
      go_loopw [11] (fun v11 wr => ∃ j : Nat, j ≤ l.length ∧ v11 = .int .i64 j ∧ Own W NoF (memA T m (pokesAt t (l.take j) ws) lg :: M.asn s :: L) wr) (fun v11 _ => l.length - (intOf v11).toNat)
      case atStart => exact ⟨0, Nat.zero_le _, rfl, HO.out.swap⟩
      case round =>
        obtain ⟨j, hj, rfl, hO⟩ := hrel
        clear HO
        have hlw := HLN.out _ _ _ _ HS.out
        by_cases hjl : j < l.length
        · obtain ⟨b3, o3, e3, hb3, hc3⟩ := (HV.out _ _ _ hO).at (by rw [pkC_len]; omega) (by omega)
          have Hnx := Lib.hid (pokes_take (t := (t : Int)) hjl ws)
          obtain ⟨x, hx⟩ : ∃ x, x = l.getD j default := ⟨_, rfl⟩
          have e := fun i hi => pkC_get l j i hjl hi
          rw [← hx] at e Hnx
          have x0 : wr.cell? ⟨b3, o3 + j * 3, none⟩ = some (.int .i64 x.at_) := hc3 (j * 3 + 0) _ (e 0 (by omega))
          have x1 : wr.cell? ⟨b3, o3 + j * 3 + 1, none⟩ = some (.int .i64 x.w) := hc3 (j * 3 + 1) _ (e 1 (by omega))
          have x2 : wr.cell? ⟨b3, o3 + j * 3 + 2, none⟩ = some (.int .i64 x.x) := hc3 (j * 3 + 2) _ (e 2 (by omega))
          clear hc3 e hx
          subst e3
          have HO := Lib.hid hO
          have hwl : (pokesAt t (l.take j) ws).length = ws.length := pokesAt_len _ _ _
          rw [hlw] at hwl
          generalize pokesAt t (l.take j) ws = wk at HO Hnx hO hwl
          obtain ⟨vw, vl, hM⟩ := hO.mem
          obtain ⟨pw, cw, rfl⟩ := row_slice hM.swap
          have m0 : wr.cell? ⟨m, 0, none⟩ = some (.slice pw wk.length cw) := hM.cell (i := 0) rfl
          rw [hwl] at m0
          have HWL := Lib.hid hwl
          clear hM hO hlw hwl
          by_cases hat : x.at_ = t
          · have hF : (x.at_ == (t : Int)) = true := by rw [beq_iff_eq]; exact hat
            have hnx := Hnx.out
            rw [if_pos hat] at hnx
            clear hat Hnx
            by_cases hw0 : 0 ≤ x.w
            · have g1 : decide (0 ≤ x.w) = true := by simp; omega
              by_cases hw1 : x.w < (N : Int)
              · have g2 : decide (x.w < (N : Int)) = true := by simp; omega
                have Hnx2 := Lib.hid hnx
                have HPw := fun w0 F0 L w h => Lib.hid (rPokeW11 (w0 := w0) (F0 := F0) (L := L) (T := T) (m := m) (ws := wk) (lg := lg) (w := w) hw0 (by have := HWL.out; omega) (by have := HWL.out; omega) h)
                clear hnx
                go_wp2_with fail
                go_quiet (fail)
                have x1' : (wr.drewN nq).cell? ⟨b3, o3 + j * 3 + 1, none⟩ = some (.int .i64 x.w) := x1
                have x2' : (wr.drewN nq).cell? ⟨b3, o3 + j * 3 + 2, none⟩ = some (.int .i64 x.x) := x2
                have HO2 := Lib.hid (HO.out.drewN nq)
                clear x0 x1 x2 m0 HO
                generalize World.drewN wr nq = w4 at x1' x2' HO2 ⊢
                go_wp2_with fail
                refine wp_region_still_tail 11 (by kernel_rfl) (by kernel_rfl) ?_
                simp only [List.take_succ_cons, List.take_zero, List.drop_succ_cons, List.drop_zero]
                change wpStill _ _ (World.drew w4) _ _ _
                iterate 11 still_step
                refine wpStill_nil ?_
                change wpList _ _ _ _ _ (World.drew w4)
                go_wp2_with fail
                refine (HPw _ _ _ _ HO2.out.drew).out.mono ?_
                rintro e w9 ⟨rfl, hO⟩
                rw [← Hnx2.out] at hO
                have HO3 := Lib.hid hO
                clear hO x1' x2' HPw HO2
                go_wp2_with fail
                go_roundw
                case rel => exact ⟨j + 1, by omega, by go_num, HO3.out⟩
                case measure => simp [intOf]; omega
              · have g2 : decide (x.w < (N : Int)) = false := by simp; omega
                rw [show pokeW wk x = wk from if_neg (by have := HWL.out; omega)] at hnx
                have Hnx2 := Lib.hid hnx
                clear hnx
                go_wp2_with fail
                go_quiet (fail)
                have HO2 := Lib.hid (HO.out.drewN nq)
                clear x0 x1 x2 m0 HO
                generalize World.drewN wr nq = w4 at HO2 ⊢
                go_wp2_with fail
                go_roundw
                case rel => exact ⟨j + 1, by omega, by go_num, by rw [Hnx2.out]; exact HO2.out⟩
                case measure => simp [intOf]; omega
            · have g1 : decide (0 ≤ x.w) = false := by simp; omega
              rw [show pokeW wk x = wk from if_neg (by omega)] at hnx
              have Hnx2 := Lib.hid hnx
              clear hnx
              go_wp2_with fail
              go_quiet (fail)
              have HO2 := Lib.hid (HO.out.drewN nq)
              clear x0 x1 x2 m0 HO
              generalize World.drewN wr nq = w4 at HO2 ⊢
              go_wp2_with fail
              go_roundw
              case rel => exact ⟨j + 1, by omega, by go_num, by rw [Hnx2.out]; exact HO2.out⟩
              case measure => simp [intOf]; omega
          · have hF : (x.at_ == (t : Int)) = false := beq_f11 hat
            have hnx := Hnx.out
            rw [if_neg hat] at hnx
            have Hnx2 := Lib.hid hnx
            clear hat hnx Hnx
            go_wp2_with fail
            go_quiet (fail)
            have HO2 := Lib.hid (HO.out.drewN nq)
            clear x0 x1 x2 m0 HO
            generalize World.drewN wr nq = w4 at HO2 ⊢
            go_wp2_with fail
            go_roundw
            case rel => exact ⟨j + 1, by omega, by go_num, by rw [Hnx2.out]; exact HO2.out⟩
            case measure => simp [intOf]; omega
        · obtain rfl : j = l.length := by omega
          rw [List.take_length] at hO
          have hpl := Hpl.out
          have hNt : most - t = (most - (t + 1)) + 1 := by have := Hlt.out; omega
          rw [hNt, playF] at hpl
          have hST := HST0.out L s (pokesAt t l ws) lg wr (HOK.out _ _ _ _ Hlt.out HS.out) hO.swap
          have hN2 := HNX.out _ _ _ _ Hlt.out HS.out
          rcases hstq : M.step s (pokesAt t l ws) lg with ⟨s2, wz, lz, q⟩
          rw [hstq] at hST hpl hN2
          simp only at hST hpl hN2
          have HST := Lib.hid hST
          have HN2 := Lib.hid hN2
          have Hpl2 := Lib.hid hpl
          clear hST hN2 hpl hstq hO hNt HS Hpl hlw hjl hj
          go_wp2_with fail
          refine HST.out.mono ?_
          rintro e w9 ⟨rfl, hO⟩
          have HO := Lib.hid hO
          clear hO HST
          cases q with
          | true =>
            have hpl := Hpl2.out
            rw [if_pos rfl] at hpl
            have Hpl3 := Lib.hid hpl
            clear hpl Hpl2
            go_wp2_with fail
            go_ret2
            exact ⟨by rw [← Hpl3.out]; rfl, by rw [← Hpl3.out]; exact HO.out⟩
          | false =>
            have hpl := Hpl2.out
            rw [if_neg (by decide)] at hpl
            have Hpl3 := Lib.hid hpl
            clear hpl Hpl2
            go_wp2_with fail
            go_roundw
            case rel => exact ⟨t + 1, s2, wz, lz, by have := Hlt.out; omega, by go_num, HN2.out trivial, Hpl3.out, HO.out⟩
            case measure => simp [intOf]; have := Hlt.out; omega
    · have htm : t = most := by omega
      subst htm
      have hpl := Hpl.out
      rw [Nat.sub_self, playF] at hpl
      have Hpl3 := Lib.hid hpl
      clear hpl Hpl
      go_wp2_with fail
      go_ret2
      exact ⟨by rw [← Hpl3.out]; rfl, by rw [← Hpl3.out]; exact HO.out⟩
end
end Go.Proofs.Ytljimbkafijnnaa
