/- Texts of elder layers, one behind the other: Pool. -/
import Derived.Test.YtjohngpbggendaaGreatT9
import Derived.Deep.RegionHeld3
import Derived.Deep.QuietTactic
import Derived.BigQuiet
section
/- Package pool's machine: its inner calls, by their own code. -/
namespace Go.Proofs.YtjohngpbggendaaGreat
open Go.ChangeShapes Go.WideShapes Go.ChangeAt Go.RowKit Go.Shelf
set_option linter.unusedVariables false
set_option maxRecDepth 100000
variable {w0 w w' : World} {F0 : Nat → Prop} {L : List Asn} {T : TypeId} {m : Nat} {ws : List Int} {lg : List Acc}
def pmO (nx nd n le av mo wa ex er an : Int) : Obj := .cells #[.int .i64 nx, .int .i64 nd, .int .i64 n, .int .i64 le, .int .i64 av, .int .i64 mo, .int .i64 wa, .int .i64 ex, .int .i64 er, .int .i64 0, .bool false, .int .i64 an] 181 (0, 0)
theorem pmCells {k : Nat} {nx nd n le av mo wa ex er an : Int} (h : Own w0 F0 (blk k (pmO nx nd n le av mo wa ex er an) :: L) w) :
    w.cell? ⟨k, 0, none⟩ = some (.int .i64 nx) ∧ w.cell? ⟨k, 1, none⟩ = some (.int .i64 nd) ∧ w.cell? ⟨k, 2, none⟩ = some (.int .i64 n) ∧ w.cell? ⟨k, 3, none⟩ = some (.int .i64 le) ∧ w.cell? ⟨k, 4, none⟩ = some (.int .i64 av) ∧ w.cell? ⟨k, 5, none⟩ = some (.int .i64 mo) ∧ w.cell? ⟨k, 6, none⟩ = some (.int .i64 wa) ∧ w.cell? ⟨k, 7, none⟩ = some (.int .i64 ex) ∧ w.cell? ⟨k, 8, none⟩ = some (.int .i64 er) ∧ w.cell? ⟨k, 9, none⟩ = some (.int .i64 0) ∧ w.cell? ⟨k, 10, none⟩ = some (.bool false) ∧ w.cell? ⟨k, 11, none⟩ = some (.int .i64 an) ∧ ∀ j, w.frozen? ⟨k, j, none⟩ = false :=
  ⟨h.cell (i := 0) rfl, h.cell (i := 1) rfl, h.cell (i := 2) rfl, h.cell (i := 3) rfl, h.cell (i := 4) rfl, h.cell (i := 5) rfl, h.cell (i := 6) rfl, h.cell (i := 7) rfl, h.cell (i := 8) rfl, h.cell (i := 9) rfl, h.cell (i := 10) rfl, h.cell (i := 11) rfl, fun j => h.unfrozen⟩
theorem mn_alt (a b : Int) : (if b < a then b else a) = mn a b := by unfold mn; split <;> split <;> omega
section
variable {k : Nat} {nx nd n le av mo wa ex er an : Int} (h : Own w0 F0 (blk k (pmO nx nd n le av mo wa ex er an) :: L) w)
include h
theorem byLease_yes (hc : n ≤ wa) : Calls Tryz.prog 234 #[.pointer (some ⟨k, 0, none⟩)] w fun e w' => e = .returned (.int .i64 2) ∧ Own w0 F0 (blk k (pmO nx nd n le av mo wa ex er an) :: L) w' := by
  obtain ⟨c0, c1, c2, c3, c4, c5, c6, c7, c8, c9, c10, c11, cf⟩ := pmCells h
  have hO := Lib.hid (fun q => h.drewN q)
  clear h
  go_enter Tryz.func234, Tryz.ntmps234
  go_wp2_with fail
  go_quiet (fail)
  go_wp2_with fail
  go_ret
  exact ⟨rfl, hO.out nq⟩
theorem byLease_no (hc : wa < n) : Calls Tryz.prog 234 #[.pointer (some ⟨k, 0, none⟩)] w fun e w' => e = .returned (.int .i64 3) ∧ Own w0 F0 (blk k (pmO nx nd n le av mo wa ex er an) :: L) w' := by
  obtain ⟨c0, c1, c2, c3, c4, c5, c6, c7, c8, c9, c10, c11, cf⟩ := pmCells h
  have hO := Lib.hid (fun q => h.drewN q)
  clear h
  go_enter Tryz.func234, Tryz.ntmps234
  go_wp2_with fail
  go_quiet (fail)
  go_wp2_with fail
  go_ret
  exact ⟨rfl, hO.out nq⟩
theorem byRoom_no (hc : mo < wa + ex) (w0' : -9223372036854775808 ≤ wa + ex) (w1' : wa + ex ≤ 9223372036854775807) : Calls Tryz.prog 238 #[.pointer (some ⟨k, 0, none⟩)] w fun e w' => e = .returned (.int .i64 7) ∧ Own w0 F0 (blk k (pmO nx nd n le av mo wa ex er an) :: L) w' := by
  obtain ⟨c0, c1, c2, c3, c4, c5, c6, c7, c8, c9, c10, c11, cf⟩ := pmCells h
  have hO := Lib.hid (fun q => h.drewN q)
  clear h
  go_enter Tryz.func238, Tryz.ntmps238
  go_wp2_with fail
  go_quiet (fail)
  go_wp2_with fail
  go_ret
  exact ⟨rfl, hO.out nq⟩
theorem byRoom_yes (hc : wa + ex ≤ mo) (w0' : -9223372036854775808 ≤ wa + ex) (w1' : wa + ex ≤ 9223372036854775807) : Calls Tryz.prog 238 #[.pointer (some ⟨k, 0, none⟩)] w fun e w' => e = .returned (.int .i64 6) ∧ Own w0 F0 (blk k (pmO nx nd n le av mo wa ex er an) :: L) w' := by
  obtain ⟨c0, c1, c2, c3, c4, c5, c6, c7, c8, c9, c10, c11, cf⟩ := pmCells h
  have hO := Lib.hid (fun q => h.drewN q)
  clear h
  go_enter Tryz.func238, Tryz.ntmps238
  go_wp2_with fail
  go_quiet (fail)
  go_wp2_with fail
  go_ret
  exact ⟨rfl, hO.out nq⟩
theorem behind_zero (hc : ex = 0) : Calls Tryz.prog 237 #[.pointer (some ⟨k, 0, none⟩)] w fun e w' => e = .returned (.int .i64 0) ∧ w = w' := by
  obtain ⟨c0, c1, c2, c3, c4, c5, c6, c7, c8, c9, c10, c11, cf⟩ := pmCells h
  subst hc
  clear h
  go_enter Tryz.func237, Tryz.ntmps237
  go_wp2_with fail
  go_ret
  exact ⟨rfl, rfl⟩
theorem behind_more (hc : 1 ≤ ex) : Calls Tryz.prog 237 #[.pointer (some ⟨k, 0, none⟩)] w fun e w' => e = .returned (.int .i64 5) ∧ w = w' := by
  obtain ⟨c0, c1, c2, c3, c4, c5, c6, c7, c8, c9, c10, c11, cf⟩ := pmCells h
  have hd : decide (ex = 0) = false := by simp; omega
  have hd2 : (ex == 0) = false := by simp; omega
  have hd3 : ¬ ex = 0 := by omega
  clear h
  go_enter Tryz.func237, Tryz.ntmps237
  go_wp2_with fail
  go_ret
  exact ⟨rfl, rfl⟩
theorem byAvail_no (hc : wa < n) : Calls Tryz.prog 236 #[.pointer (some ⟨k, 0, none⟩)] w fun e w' => e = .returned (.int .i64 0) ∧ Own w0 F0 (blk k (pmO nx nd n le av mo wa ex 4 nd) :: L) w' := by
  obtain ⟨c0, c1, c2, c3, c4, c5, c6, c7, c8, c9, c10, c11, cf⟩ := pmCells h
  have hO := Lib.hid (fun q => ((((h.drewN q).set 8 (.int .i64 4)).set 9 (.int .i64 0)).set 10 (.bool false)).set 11 (.int .i64 nd))
  clear h
  go_enter Tryz.func236, Tryz.ntmps236
  go_wp2_with fail
  go_quiet (fail)
  go_wp2_with fail
  go_ret
  exact ⟨rfl, hO.out nq⟩
theorem byAvail_yes (hc : n ≤ wa) (w1' : wa ≤ 1000000000000000000) (n0 : 0 ≤ n) (m0 : 0 ≤ mo) (m1 : mo ≤ 1048576) : Calls Tryz.prog 236 #[.pointer (some ⟨k, 0, none⟩)] w fun e w' => e = .returned (.int .i64 4) ∧ Own w0 F0 (blk k (pmO nx nd n le av mo wa (mn (wa - n) (mo / 2)) er an) :: L) w' := by
  obtain ⟨c0, c1, c2, c3, c4, c5, c6, c7, c8, c9, c10, c11, cf⟩ := pmCells h
  have hO := Lib.hid (fun q => (h.drewN q).set 7 (.int .i64 (mn (wa - n) (mo / 2))))
  have hC := Lib.hid (fun q => pmCells (h.drewN q))
  have hq : mo.tdiv 2 = mo / 2 := Int.tdiv_eq_ediv_of_nonneg m0
  clear h
  go_enter Tryz.func236, Tryz.ntmps236
  go_wp2_with fail
  go_quiet (fail)
  have hO := Lib.hid (hO.out nq)
  obtain ⟨d0, d1, d2, d3, d4, d5, d6, d7, d8, d9, d10, d11, df⟩ := hC.out nq
  clear hC c0 c1 c2 c3 c4 c5 c6 c7 c8 c9 c10 c11 cf
  generalize w.drewN nq = w2 at *
  go_wp2_with fail
  go_region
  have hm : (if mo / 2 < wa - n then mo / 2 else wa - n) = mn (wa - n) (mo / 2) := mn_alt _ _
  rw [hm]
  have hO2 := Lib.hid hO.out.drew
  go_wp2_with fail
  go_ret
  exact ⟨rfl, hO2.out⟩
end
set_option maxHeartbeats 1000000 in
theorem take_yes {k : Nat} {nx nd n le av mo wa ex er an : Int} (i : Nat) (many done miss : Int) (hi : i < ws.length) (hl : lg.length < 1000000) (he : ws.getD i 0 = wa) (b0 : -9223372036854775808 ≤ wa - many) (b1 : wa - many ≤ 9223372036854775807)
    (h : Own w0 F0 (memA T m ws lg :: blk k (pmO nx nd n le av mo wa ex er an) :: L) w) :
    Calls Tryz.prog 235 #[.pointer (some ⟨k, 0, none⟩), .func (Fn.func 193) #[.pointer (some ⟨m, 0, none⟩)] #[], .int .i64 i, .int .i64 many, .int .i64 done, .int .i64 miss] w fun e w' =>
      e = .returned (.int .i64 done) ∧ Own w0 F0 (memA T m (ws.set i (wa - many)) (lg ++ [⟨3, i, wa, wa - many, true⟩]) :: blk k (pmO nx nd n le av mo wa ex er an) :: L) w' := by
  obtain ⟨c0, c1, c2, c3, c4, c5, c6, c7, c8, c9, c10, c11, cf⟩ := pmCells h.swap
  have HC := fun w h => Lib.hid (Cas_yes (w0 := w0) (F0 := F0) (T := T) (m := m) (ws := ws) (l := lg) (w := w) (L := blk k (pmO nx nd n le av mo wa ex er an) :: L) i wa (wa - many) hi hl he h)
  have hO := h.drew
  have hwr : IntKind.i64.wrap (wa - many) = wa - many := IntWalk.i64_in _ (by omega)
  clear h hi hl he
  go_enter Tryz.func235, Tryz.ntmps235
  go_wp2_with fail
  go_region_held3 (fun w' => w'.cell? ⟨k, 6, none⟩ = some (.int .i64 wa)) (go_keep) (first | (go_at_call 193; with_reducible refine Calls.mono (Hid.out (HC _ hO)) ?_; rintro e w4 ⟨rfl, hM⟩; obtain ⟨d0, d1, d2, d3, d4, d5, d6, d7, d8, d9, d10, d11, df⟩ := pmCells hM.swap))
  have HM := Lib.hid hM
  clear hM hO HC
  go_wp2_with fail
  go_ret
  exact ⟨rfl, HM.out⟩
set_option maxHeartbeats 1000000 in
theorem take_no {k : Nat} {nx nd n le av mo wa ex er an : Int} (i : Nat) (many done miss : Int) (hi : i < ws.length) (hl : lg.length < 1000000) (he : ws.getD i 0 ≠ wa) (b0 : -9223372036854775808 ≤ wa - many) (b1 : wa - many ≤ 9223372036854775807)
    (h : Own w0 F0 (memA T m ws lg :: blk k (pmO nx nd n le av mo wa ex er an) :: L) w) :
    Calls Tryz.prog 235 #[.pointer (some ⟨k, 0, none⟩), .func (Fn.func 193) #[.pointer (some ⟨m, 0, none⟩)] #[], .int .i64 i, .int .i64 many, .int .i64 done, .int .i64 miss] w fun e w' =>
      e = .returned (.int .i64 miss) ∧ Own w0 F0 (memA T m ws (lg ++ [⟨3, i, wa, wa - many, false⟩]) :: blk k (pmO nx nd n le av mo wa ex er an) :: L) w' := by
  obtain ⟨c0, c1, c2, c3, c4, c5, c6, c7, c8, c9, c10, c11, cf⟩ := pmCells h.swap
  have HC := fun w h => Lib.hid (Cas_no (w0 := w0) (F0 := F0) (T := T) (m := m) (ws := ws) (l := lg) (w := w) (L := blk k (pmO nx nd n le av mo wa ex er an) :: L) i wa (wa - many) hi hl he h)
  have hO := h.drew
  have hwr : IntKind.i64.wrap (wa - many) = wa - many := IntWalk.i64_in _ (by omega)
  clear h hi hl he
  go_enter Tryz.func235, Tryz.ntmps235
  go_wp2_with fail
  go_region_held3 (fun w' => w'.cell? ⟨k, 6, none⟩ = some (.int .i64 wa)) (go_keep) (first | (go_at_call 193; with_reducible refine Calls.mono (Hid.out (HC _ hO)) ?_; rintro e w4 ⟨rfl, hM⟩; obtain ⟨d0, d1, d2, d3, d4, d5, d6, d7, d8, d9, d10, d11, df⟩ := pmCells hM.swap))
  have HM := Lib.hid hM
  clear hM hO HC
  go_wp2_with fail
  go_ret
  exact ⟨rfl, HM.out⟩
end Go.Proofs.YtjohngpbggendaaGreat
end
