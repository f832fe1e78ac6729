/- Texts of elder layers, one behind the other: Pool, PoolMach. -/
import Derived.Test.YtdglnpfnjinbkaaGreatC5
import Derived.Deep.RegionHeld3
import Derived.Deep.QuietTactic
import Derived.BigQuiet
namespace Go.Proofs.YtdglnpfnjinbkaaGreat
open Go.ChangeShapes Go.WideShapes Go.ChangeAt Go.RowKit Go.Shelf
open Lib (hid)
set_option linter.unusedVariables false
set_option linter.unusedSimpArgs false
set_option maxRecDepth 100000
set_option maxHeartbeats 4000000
section
variable {w0 w w' : World} {F0 : Nat -> Prop} {L : List Asn} {T : TypeId} {m : Nat} {ws : List Int} {lg : List Acc}
def pmO (nx nd n le av mo wa ex er an : Int) : Obj := .cells #[.int .i64 nx, .int .i64 nd, .int .i64 n, .int .i64 le, .int .i64 av, .int .i64 mo, .int .i64 wa, .int .i64 ex, .int .i64 er, .int .i64 0, .bool false, .int .i64 an] 242 (0, 0)
theorem zZh {k : Nat} {nx nd n le av mo wa ex er an : Int} (h : Own w0 F0 (blk k (pmO nx nd n le av mo wa ex er an) :: L) w) :
 w.cell? ⟨k, 0, none⟩ = some (.int .i64 nx) /\ w.cell? ⟨k, 1, none⟩ = some (.int .i64 nd) /\ w.cell? ⟨k, 2, none⟩ = some (.int .i64 n) /\ w.cell? ⟨k, 3, none⟩ = some (.int .i64 le) /\ w.cell? ⟨k, 4, none⟩ = some (.int .i64 av) /\ w.cell? ⟨k, 5, none⟩ = some (.int .i64 mo) /\ w.cell? ⟨k, 6, none⟩ = some (.int .i64 wa) /\ w.cell? ⟨k, 7, none⟩ = some (.int .i64 ex) /\ w.cell? ⟨k, 8, none⟩ = some (.int .i64 er) /\ w.cell? ⟨k, 9, none⟩ = some (.int .i64 0) /\ w.cell? ⟨k, 10, none⟩ = some (.bool false) /\ w.cell? ⟨k, 11, none⟩ = some (.int .i64 an) /\ ∀ j, w.frozen? ⟨k, j, none⟩ = false :=
 ⟨h.cell (i := 0) rfl, h.cell (i := 1) rfl, h.cell (i := 2) rfl, h.cell (i := 3) rfl, h.cell (i := 4) rfl, h.cell (i := 5) rfl, h.cell (i := 6) rfl, h.cell (i := 7) rfl, h.cell (i := 8) rfl, h.cell (i := 9) rfl, h.cell (i := 10) rfl, h.cell (i := 11) rfl, fun j => h.unfrozen⟩
theorem mn_alt (a b : Int) : (if b < a then b else a) = mn a b := by unfold mn; split <;> split <;> omega
section
variable {k : Nat} {nx nd n le av mo wa ex er an : Int} (h : Own w0 F0 (blk k (pmO nx nd n le av mo wa ex er an) :: L) w)
include h
theorem byLease_yes (hc : n <= wa) : Calls Tryz.prog 318 #[.pointer (some ⟨k, 0, none⟩)] w fun e w' => e = .returned (.int .i64 2) /\ Own w0 F0 (blk k (pmO nx nd n le av mo wa ex er an) :: L) w' := by
 obtain ⟨c0, c1, c2, c3, c4, c5, c6, c7, c8, c9, c10, c11, cf⟩ := zZh h
 have hO := hid (fun q => h.drewN q)
 clear h
 go_enter Tryz.func318, Tryz.ntmps318
 go_wp2_with fail
 go_quiet (fail)
 go_wp2_with fail
 go_ret
 exact ⟨rfl, hO.out nq⟩
theorem byLease_no (hc : wa < n) : Calls Tryz.prog 318 #[.pointer (some ⟨k, 0, none⟩)] w fun e w' => e = .returned (.int .i64 3) /\ Own w0 F0 (blk k (pmO nx nd n le av mo wa ex er an) :: L) w' := by
 obtain ⟨c0, c1, c2, c3, c4, c5, c6, c7, c8, c9, c10, c11, cf⟩ := zZh h
 have hO := hid (fun q => h.drewN q)
 clear h
 go_enter Tryz.func318, Tryz.ntmps318
 go_wp2_with fail
 go_quiet (fail)
 go_wp2_with fail
 go_ret
 exact ⟨rfl, hO.out nq⟩
theorem byRoom_no (hc : mo < wa + ex) (w0' : -9223372036854775808 <= wa + ex) (w1' : wa + ex <= 9223372036854775807) : Calls Tryz.prog 322 #[.pointer (some ⟨k, 0, none⟩)] w fun e w' => e = .returned (.int .i64 7) /\ Own w0 F0 (blk k (pmO nx nd n le av mo wa ex er an) :: L) w' := by
 obtain ⟨c0, c1, c2, c3, c4, c5, c6, c7, c8, c9, c10, c11, cf⟩ := zZh h
 have hO := hid (fun q => h.drewN q)
 clear h
 go_enter Tryz.func322, Tryz.ntmps322
 go_wp2_with fail
 go_quiet (fail)
 go_wp2_with fail
 go_ret
 exact ⟨rfl, hO.out nq⟩
theorem byRoom_yes (hc : wa + ex <= mo) (w0' : -9223372036854775808 <= wa + ex) (w1' : wa + ex <= 9223372036854775807) : Calls Tryz.prog 322 #[.pointer (some ⟨k, 0, none⟩)] w fun e w' => e = .returned (.int .i64 6) /\ Own w0 F0 (blk k (pmO nx nd n le av mo wa ex er an) :: L) w' := by
 obtain ⟨c0, c1, c2, c3, c4, c5, c6, c7, c8, c9, c10, c11, cf⟩ := zZh h
 have hO := hid (fun q => h.drewN q)
 clear h
 go_enter Tryz.func322, Tryz.ntmps322
 go_wp2_with fail
 go_quiet (fail)
 go_wp2_with fail
 go_ret
 exact ⟨rfl, hO.out nq⟩
theorem behind_zero (hc : ex = 0) : Calls Tryz.prog 321 #[.pointer (some ⟨k, 0, none⟩)] w fun e w' => e = .returned (.int .i64 0) /\ w = w' := by
 obtain ⟨c0, c1, c2, c3, c4, c5, c6, c7, c8, c9, c10, c11, cf⟩ := zZh h
 subst hc
 clear h
 go_enter Tryz.func321, Tryz.ntmps321
 go_wp2_with fail
 go_ret
 exact ⟨rfl, rfl⟩
theorem behind_more (hc : 1 <= ex) : Calls Tryz.prog 321 #[.pointer (some ⟨k, 0, none⟩)] w fun e w' => e = .returned (.int .i64 5) /\ w = w' := by
 obtain ⟨c0, c1, c2, c3, c4, c5, c6, c7, c8, c9, c10, c11, cf⟩ := zZh h
 have hd : decide (ex = 0) = false := by simp; omega
 have hd2 : (ex == 0) = false := by simp; omega
 have hd3 : ¬ ex = 0 := by omega
 clear h
 go_enter Tryz.func321, Tryz.ntmps321
 go_wp2_with fail
 go_ret
 exact ⟨rfl, rfl⟩
theorem byAvail_no (hc : wa < n) : Calls Tryz.prog 320 #[.pointer (some ⟨k, 0, none⟩)] w fun e w' => e = .returned (.int .i64 0) /\ Own w0 F0 (blk k (pmO nx nd n le av mo wa ex 4 nd) :: L) w' := by
 obtain ⟨c0, c1, c2, c3, c4, c5, c6, c7, c8, c9, c10, c11, cf⟩ := zZh h
 have hO := hid (fun q => ((((h.drewN q).set 8 (.int .i64 4)).set 9 (.int .i64 0)).set 10 (.bool false)).set 11 (.int .i64 nd))
 clear h
 go_enter Tryz.func320, Tryz.ntmps320
 go_wp2_with fail
 go_quiet (fail)
 go_wp2_with fail
 go_ret
 exact ⟨rfl, hO.out nq⟩
theorem byAvail_yes (hc : n <= wa) (w1' : wa <= 1000000000000000000) (n0 : 0 <= n) (m0 : 0 <= mo) (m1 : mo <= 1048576) : Calls Tryz.prog 320 #[.pointer (some ⟨k, 0, none⟩)] w fun e w' => e = .returned (.int .i64 4) /\ Own w0 F0 (blk k (pmO nx nd n le av mo wa (mn (wa - n) (mo / 2)) er an) :: L) w' := by
 obtain ⟨c0, c1, c2, c3, c4, c5, c6, c7, c8, c9, c10, c11, cf⟩ := zZh h
 have hO := hid (fun q => (h.drewN q).set 7 (.int .i64 (mn (wa - n) (mo / 2))))
 have hC := hid (fun q => zZh (h.drewN q))
 have hq : mo.tdiv 2 = mo / 2 := Int.tdiv_eq_ediv_of_nonneg m0
 clear h
 go_enter Tryz.func320, Tryz.ntmps320
 go_wp2_with fail
 go_quiet (fail)
 have hO := hid (hO.out nq)
 obtain ⟨d0, d1, d2, d3, d4, d5, d6, d7, d8, d9, d10, d11, df⟩ := hC.out nq
 clear hC c0 c1 c2 c3 c4 c5 c6 c7 c8 c9 c10 c11 cf
 generalize w.drewN nq = w2 at *
 go_wp2_with fail
 go_region
 have hm : (if mo / 2 < wa - n then mo / 2 else wa - n) = mn (wa - n) (mo / 2) := mn_alt _ _
 rw [hm]
 have hO2 := hid hO.out.drew
 go_wp2_with fail
 go_ret
 exact ⟨rfl, hO2.out⟩
end
theorem zR0 {k : Nat} {nx nd n le av mo wa ex er an : Int} (i : Nat) (many done miss : Int) (hi : i < ws.length) (hl : lg.length < 1000000) (he : ws.getD i 0 = wa) (b0 : -9223372036854775808 <= wa - many) (b1 : wa - many <= 9223372036854775807)
 (h : Own w0 F0 (memA T m ws lg :: blk k (pmO nx nd n le av mo wa ex er an) :: L) w) :
 Calls Tryz.prog 319 #[.pointer (some ⟨k, 0, none⟩), .func (Fn.func 219) #[.pointer (some ⟨m, 0, none⟩)] #[], .int .i64 i, .int .i64 many, .int .i64 done, .int .i64 miss] w fun e w' =>
  e = .returned (.int .i64 done) /\ Own w0 F0 (memA T m (ws.set i (wa - many)) (lg ++ [⟨3, i, wa, wa - many, true⟩]) :: blk k (pmO nx nd n le av mo wa ex er an) :: L) w' := by
 obtain ⟨c0, c1, c2, c3, c4, c5, c6, c7, c8, c9, c10, c11, cf⟩ := zZh h.swap
 have HC := fun w h => hid (zSe (w0 := w0) (F0 := F0) (T := T) (m := m) (ws := ws) (l := lg) (w := w) (L := blk k (pmO nx nd n le av mo wa ex er an) :: L) i wa (wa - many) hi hl he h)
 have hO := h.drew
 have hwr : IntKind.i64.wrap (wa - many) = wa - many := IntWalk.i64_in _ (by omega)
 clear h hi hl he
 go_enter Tryz.func319, Tryz.ntmps319
 go_wp2_with fail
 go_region_held3 (fun w' => w'.cell? ⟨k, 6, none⟩ = some (.int .i64 wa)) (go_keep) (first | (go_at_call 219; with_reducible refine Calls.mono (Hid.out (HC _ hO)) ?_; rintro e w4 ⟨rfl, hM⟩; obtain ⟨d0, d1, d2, d3, d4, d5, d6, d7, d8, d9, d10, d11, df⟩ := zZh hM.swap))
 have HM := hid hM
 clear hM hO HC
 go_wp2_with fail
 go_ret
 exact ⟨rfl, HM.out⟩
theorem take_no {k : Nat} {nx nd n le av mo wa ex er an : Int} (i : Nat) (many done miss : Int) (hi : i < ws.length) (hl : lg.length < 1000000) (he : ws.getD i 0 ≠ wa) (b0 : -9223372036854775808 <= wa - many) (b1 : wa - many <= 9223372036854775807)
 (h : Own w0 F0 (memA T m ws lg :: blk k (pmO nx nd n le av mo wa ex er an) :: L) w) :
 Calls Tryz.prog 319 #[.pointer (some ⟨k, 0, none⟩), .func (Fn.func 219) #[.pointer (some ⟨m, 0, none⟩)] #[], .int .i64 i, .int .i64 many, .int .i64 done, .int .i64 miss] w fun e w' =>
  e = .returned (.int .i64 miss) /\ Own w0 F0 (memA T m ws (lg ++ [⟨3, i, wa, wa - many, false⟩]) :: blk k (pmO nx nd n le av mo wa ex er an) :: L) w' := by
 obtain ⟨c0, c1, c2, c3, c4, c5, c6, c7, c8, c9, c10, c11, cf⟩ := zZh h.swap
 have HC := fun w h => hid (Cas_no (w0 := w0) (F0 := F0) (T := T) (m := m) (ws := ws) (l := lg) (w := w) (L := blk k (pmO nx nd n le av mo wa ex er an) :: L) i wa (wa - many) hi hl he h)
 have hO := h.drew
 have hwr : IntKind.i64.wrap (wa - many) = wa - many := IntWalk.i64_in _ (by omega)
 clear h hi hl he
 go_enter Tryz.func319, Tryz.ntmps319
 go_wp2_with fail
 go_region_held3 (fun w' => w'.cell? ⟨k, 6, none⟩ = some (.int .i64 wa)) (go_keep) (first | (go_at_call 219; with_reducible refine Calls.mono (Hid.out (HC _ hO)) ?_; rintro e w4 ⟨rfl, hM⟩; obtain ⟨d0, d1, d2, d3, d4, d5, d6, d7, d8, d9, d10, d11, df⟩ := zZh hM.swap))
 have HM := hid hM
 clear hM hO HC
 go_wp2_with fail
 go_ret
 exact ⟨rfl, HM.out⟩
end
section
variable {w0 w w' : World} {F0 : Nat -> Prop} {L : List Asn} {T : TypeId} {m : Nat} {ws : List Int} {lg : List Acc}
theorem zRl {k : Nat} {nx nd n le av mo wa ex er an : Int} (h0 : 0 <= ex) (h : Own w0 F0 (blk k (pmO nx nd n le av mo wa ex er an) :: L) w) : Calls Tryz.prog 321 #[.pointer (some ⟨k, 0, none⟩)] w fun e w' => e = .returned (.int .i64 (if ex = 0 then 0 else 5)) /\ w = w' := by
 by_cases he : ex = 0
 ·rw [if_pos he]; exact behind_zero h he
 ·rw [if_neg he]; exact behind_more h (by omega)
theorem zUo (i : Nat) (y : Int) (hy : ws.getD i 0 = y) (hi : i < ws.length) (hl : lg.length < 1000000) (h : Own w0 F0 (memA T m ws lg :: L) w) :
 Calls Tryz.prog 167 #[.pointer (some ⟨m, 0, none⟩), .int .i64 i] w fun e w' =>
  e = .returned (.int .i64 y) /\ Own w0 F0 (memA T m ws (lg ++ [⟨1, i, y, 0, false⟩]) :: L) w' := by
 subst hy; exact zY9 i hi hl h
section
variable {g : Nat} {nd n mo wa ex er an : Int} {le av : Nat}
theorem acc0_yes (y : Int) (hi : le < ws.length) (hy : ws.getD le 0 = y) (hc : n <= y) (hl : lg.length < 1000000)
 (h : Own w0 F0 (blk g (pmO 1 nd n le av mo wa ex er an) :: memA T m ws lg :: L) w) :
 Calls Tryz.prog 317 #[.pointer (some ⟨g, 0, none⟩), .pointer (some ⟨m, 0, none⟩)] w fun e w' => e = .returned (.int .i64 2) /\
  Own w0 F0 (blk g (pmO 1 nd n le av mo y ex er an) :: memA T m ws (lg ++ [⟨1, le, y, 0, false⟩]) :: L) w' := by
 have H1 := hid (zUo (L := blk g (pmO 1 nd n le av mo wa ex er an) :: L) le y hy hi hl h.swap)
 obtain ⟨c0, c1, c2, c3, c4, c5, c6, c7, c8, c9, c10, c11, cf⟩ := zZh h
 clear h hi hy hl
 go_enter Tryz.func317, Tryz.ntmps317
 go_wp2_with fail
 refine H1.out.mono ?_
 rintro e w1 ⟨rfl, hM⟩
 obtain ⟨d0, d1, d2, d3, d4, d5, d6, d7, d8, d9, d10, d11, df⟩ := zZh hM.swap
 have h2 := hid (hM.swap.set 6 (.int .i64 y))
 clear H1 hM c0 c1 c2 c3 c4 c5 c6 c7 c8 c9 c10 c11 cf
 go_wp2_with fail
 have h3 : Own w0 F0 (blk g (pmO 1 nd n le av mo y ex er an) :: memA T m ws (lg ++ [⟨1, le, y, 0, false⟩]) :: L) _ := h2.out
 generalize World.setCell _ _ _ = w2 at h3 ⊢
 have H3 := hid (byLease_yes h3 hc)
 clear h2 h3 d0 d1 d2 d3 d4 d5 d6 d7 d8 d9 d10 d11 df
 go_wp2_with fail
 refine H3.out.mono ?_
 rintro e w3 ⟨rfl, hO⟩
 have hO := hid hO
 clear H3
 go_wp2_with fail
 go_ret
 exact ⟨rfl, hO.out⟩
theorem acc0_no (y : Int) (hi : le < ws.length) (hy : ws.getD le 0 = y) (hc : y < n) (hl : lg.length < 1000000)
 (h : Own w0 F0 (blk g (pmO 1 nd n le av mo wa ex er an) :: memA T m ws lg :: L) w) :
 Calls Tryz.prog 317 #[.pointer (some ⟨g, 0, none⟩), .pointer (some ⟨m, 0, none⟩)] w fun e w' => e = .returned (.int .i64 3) /\
  Own w0 F0 (blk g (pmO 1 nd n le av mo y ex er an) :: memA T m ws (lg ++ [⟨1, le, y, 0, false⟩]) :: L) w' := by
 have H1 := hid (zUo (L := blk g (pmO 1 nd n le av mo wa ex er an) :: L) le y hy hi hl h.swap)
 obtain ⟨c0, c1, c2, c3, c4, c5, c6, c7, c8, c9, c10, c11, cf⟩ := zZh h
 clear h hi hy hl
 go_enter Tryz.func317, Tryz.ntmps317
 go_wp2_with fail
 refine H1.out.mono ?_
 rintro e w1 ⟨rfl, hM⟩
 obtain ⟨d0, d1, d2, d3, d4, d5, d6, d7, d8, d9, d10, d11, df⟩ := zZh hM.swap
 have h2 := hid (hM.swap.set 6 (.int .i64 y))
 clear H1 hM c0 c1 c2 c3 c4 c5 c6 c7 c8 c9 c10 c11 cf
 go_wp2_with fail
 have h3 : Own w0 F0 (blk g (pmO 1 nd n le av mo y ex er an) :: memA T m ws (lg ++ [⟨1, le, y, 0, false⟩]) :: L) _ := h2.out
 generalize World.setCell _ _ _ = w2 at h3 ⊢
 have H3 := hid (byLease_no h3 hc)
 clear h2 h3 d0 d1 d2 d3 d4 d5 d6 d7 d8 d9 d10 d11 df
 go_wp2_with fail
 refine H3.out.mono ?_
 rintro e w3 ⟨rfl, hO⟩
 have hO := hid hO
 clear H3
 go_wp2_with fail
 go_ret
 exact ⟨rfl, hO.out⟩
theorem acc2_no (y : Int) (hi : av < ws.length) (hy : ws.getD av 0 = y) (hc : y < n) (hl : lg.length < 1000000)
 (h : Own w0 F0 (blk g (pmO 3 nd n le av mo wa ex er an) :: memA T m ws lg :: L) w) :
 Calls Tryz.prog 317 #[.pointer (some ⟨g, 0, none⟩), .pointer (some ⟨m, 0, none⟩)] w fun e w' => e = .returned (.int .i64 0) /\
  Own w0 F0 (blk g (pmO 3 nd n le av mo y ex 4 nd) :: memA T m ws (lg ++ [⟨1, av, y, 0, false⟩]) :: L) w' := by
 have H1 := hid (zUo (L := blk g (pmO 3 nd n le av mo wa ex er an) :: L) av y hy hi hl h.swap)
 obtain ⟨c0, c1, c2, c3, c4, c5, c6, c7, c8, c9, c10, c11, cf⟩ := zZh h
 clear h hi hy hl
 go_enter Tryz.func317, Tryz.ntmps317
 go_wp2_with fail
 refine H1.out.mono ?_
 rintro e w1 ⟨rfl, hM⟩
 obtain ⟨d0, d1, d2, d3, d4, d5, d6, d7, d8, d9, d10, d11, df⟩ := zZh hM.swap
 have h2 := hid (hM.swap.set 6 (.int .i64 y))
 clear H1 hM c0 c1 c2 c3 c4 c5 c6 c7 c8 c9 c10 c11 cf
 go_wp2_with fail
 have h3 : Own w0 F0 (blk g (pmO 3 nd n le av mo y ex er an) :: memA T m ws (lg ++ [⟨1, av, y, 0, false⟩]) :: L) _ := h2.out
 generalize World.setCell _ _ _ = w2 at h3 ⊢
 have H3 := hid (byAvail_no h3 hc)
 clear h2 h3 d0 d1 d2 d3 d4 d5 d6 d7 d8 d9 d10 d11 df
 go_wp2_with fail
 refine H3.out.mono ?_
 rintro e w3 ⟨rfl, hO⟩
 have hO := hid hO
 clear H3
 go_wp2_with fail
 go_ret
 exact ⟨rfl, hO.out⟩
theorem acc2_yes (y : Int) (hi : av < ws.length) (hy : ws.getD av 0 = y) (hc : n <= y) (y1 : y <= 1000000000000000000) (n0 : 0 <= n) (m0 : 0 <= mo) (m1 : mo <= 1048576) (hl : lg.length < 1000000)
 (h : Own w0 F0 (blk g (pmO 3 nd n le av mo wa ex er an) :: memA T m ws lg :: L) w) :
 Calls Tryz.prog 317 #[.pointer (some ⟨g, 0, none⟩), .pointer (some ⟨m, 0, none⟩)] w fun e w' => e = .returned (.int .i64 4) /\
  Own w0 F0 (blk g (pmO 3 nd n le av mo y (mn (y - n) (mo / 2)) er an) :: memA T m ws (lg ++ [⟨1, av, y, 0, false⟩]) :: L) w' := by
 have H1 := hid (zUo (L := blk g (pmO 3 nd n le av mo wa ex er an) :: L) av y hy hi hl h.swap)
 obtain ⟨c0, c1, c2, c3, c4, c5, c6, c7, c8, c9, c10, c11, cf⟩ := zZh h
 clear h hi hy hl
 go_enter Tryz.func317, Tryz.ntmps317
 go_wp2_with fail
 refine H1.out.mono ?_
 rintro e w1 ⟨rfl, hM⟩
 obtain ⟨d0, d1, d2, d3, d4, d5, d6, d7, d8, d9, d10, d11, df⟩ := zZh hM.swap
 have h2 := hid (hM.swap.set 6 (.int .i64 y))
 clear H1 hM c0 c1 c2 c3 c4 c5 c6 c7 c8 c9 c10 c11 cf
 go_wp2_with fail
 have h3 : Own w0 F0 (blk g (pmO 3 nd n le av mo y ex er an) :: memA T m ws (lg ++ [⟨1, av, y, 0, false⟩]) :: L) _ := h2.out
 generalize World.setCell _ _ _ = w2 at h3 ⊢
 have H3 := hid (byAvail_yes h3 hc y1 n0 m0 m1)
 clear h2 h3 d0 d1 d2 d3 d4 d5 d6 d7 d8 d9 d10 d11 df
 go_wp2_with fail
 refine H3.out.mono ?_
 rintro e w3 ⟨rfl, hO⟩
 have hO := hid hO
 clear H3
 go_wp2_with fail
 go_ret
 exact ⟨rfl, hO.out⟩
theorem acc4_yes (y : Int) (hi : le < ws.length) (hy : ws.getD le 0 = y) (hc : y + ex <= mo) (y0 : -9223372036854775808 <= y + ex) (y1 : y + ex <= 9223372036854775807) (hl : lg.length < 1000000)
 (h : Own w0 F0 (blk g (pmO 5 nd n le av mo wa ex er an) :: memA T m ws lg :: L) w) :
 Calls Tryz.prog 317 #[.pointer (some ⟨g, 0, none⟩), .pointer (some ⟨m, 0, none⟩)] w fun e w' => e = .returned (.int .i64 6) /\
  Own w0 F0 (blk g (pmO 5 nd n le av mo y ex er an) :: memA T m ws (lg ++ [⟨1, le, y, 0, false⟩]) :: L) w' := by
 have H1 := hid (zUo (L := blk g (pmO 5 nd n le av mo wa ex er an) :: L) le y hy hi hl h.swap)
 obtain ⟨c0, c1, c2, c3, c4, c5, c6, c7, c8, c9, c10, c11, cf⟩ := zZh h
 clear h hi hy hl
 go_enter Tryz.func317, Tryz.ntmps317
 go_wp2_with fail
 refine H1.out.mono ?_
 rintro e w1 ⟨rfl, hM⟩
 obtain ⟨d0, d1, d2, d3, d4, d5, d6, d7, d8, d9, d10, d11, df⟩ := zZh hM.swap
 have h2 := hid (hM.swap.set 6 (.int .i64 y))
 clear H1 hM c0 c1 c2 c3 c4 c5 c6 c7 c8 c9 c10 c11 cf
 go_wp2_with fail
 have h3 : Own w0 F0 (blk g (pmO 5 nd n le av mo y ex er an) :: memA T m ws (lg ++ [⟨1, le, y, 0, false⟩]) :: L) _ := h2.out
 generalize World.setCell _ _ _ = w2 at h3 ⊢
 have H3 := hid (byRoom_yes h3 hc y0 y1)
 clear h2 h3 d0 d1 d2 d3 d4 d5 d6 d7 d8 d9 d10 d11 df
 go_wp2_with fail
 refine H3.out.mono ?_
 rintro e w3 ⟨rfl, hO⟩
 have hO := hid hO
 clear H3
 go_wp2_with fail
 go_ret
 exact ⟨rfl, hO.out⟩
theorem acc4_no (y : Int) (hi : le < ws.length) (hy : ws.getD le 0 = y) (hc : mo < y + ex) (y0 : -9223372036854775808 <= y + ex) (y1 : y + ex <= 9223372036854775807) (hl : lg.length < 1000000)
 (h : Own w0 F0 (blk g (pmO 5 nd n le av mo wa ex er an) :: memA T m ws lg :: L) w) :
 Calls Tryz.prog 317 #[.pointer (some ⟨g, 0, none⟩), .pointer (some ⟨m, 0, none⟩)] w fun e w' => e = .returned (.int .i64 7) /\
  Own w0 F0 (blk g (pmO 5 nd n le av mo y ex er an) :: memA T m ws (lg ++ [⟨1, le, y, 0, false⟩]) :: L) w' := by
 have H1 := hid (zUo (L := blk g (pmO 5 nd n le av mo wa ex er an) :: L) le y hy hi hl h.swap)
 obtain ⟨c0, c1, c2, c3, c4, c5, c6, c7, c8, c9, c10, c11, cf⟩ := zZh h
 clear h hi hy hl
 go_enter Tryz.func317, Tryz.ntmps317
 go_wp2_with fail
 refine H1.out.mono ?_
 rintro e w1 ⟨rfl, hM⟩
 obtain ⟨d0, d1, d2, d3, d4, d5, d6, d7, d8, d9, d10, d11, df⟩ := zZh hM.swap
 have h2 := hid (hM.swap.set 6 (.int .i64 y))
 clear H1 hM c0 c1 c2 c3 c4 c5 c6 c7 c8 c9 c10 c11 cf
 go_wp2_with fail
 have h3 : Own w0 F0 (blk g (pmO 5 nd n le av mo y ex er an) :: memA T m ws (lg ++ [⟨1, le, y, 0, false⟩]) :: L) _ := h2.out
 generalize World.setCell _ _ _ = w2 at h3 ⊢
 have H3 := hid (byRoom_no h3 hc y0 y1)
 clear h2 h3 d0 d1 d2 d3 d4 d5 d6 d7 d8 d9 d10 d11 df
 go_wp2_with fail
 refine H3.out.mono ?_
 rintro e w3 ⟨rfl, hO⟩
 have hO := hid hO
 clear H3
 go_wp2_with fail
 go_ret
 exact ⟨rfl, hO.out⟩
theorem acc1_yes (hi : le < ws.length) (he : ws.getD le 0 = wa) (b0 : -9223372036854775808 <= wa - (n)) (b1 : wa - (n) <= 9223372036854775807)  (hl : lg.length < 1000000)
 (h : Own w0 F0 (blk g (pmO 2 nd n le av mo wa ex er an) :: memA T m ws lg :: L) w) :
 Calls Tryz.prog 317 #[.pointer (some ⟨g, 0, none⟩), .pointer (some ⟨m, 0, none⟩)] w fun e w' => e = .returned (.int .i64 0) /\
  Own w0 F0 (blk g (pmO 2 nd n le av mo wa ex er an) :: memA T m (ws.set le (wa - (n))) (lg ++ [⟨3, le, wa, wa - (n), true⟩]) :: L) w' := by
 have HC := fun w h => hid (zR0 (w0 := w0) (F0 := F0) (T := T) (m := m) (ws := ws) (lg := lg) (w := w) (L := L) (k := g) (nx := 2) (nd := nd) (n := n) (le := le) (av := av) (mo := mo) (wa := wa) (ex := ex) (er := er) (an := an) le (n) (0) (1) hi hl he b0 b1 h)
 obtain ⟨c0, c1, c2, c3, c4, c5, c6, c7, c8, c9, c10, c11, cf⟩ := zZh h
 have hO := h.swap.drew
 clear h hi hl he
 go_enter Tryz.func317, Tryz.ntmps317
 go_wp2_with fail
 go_region_held3 (fun w' => w'.cell? ⟨g, 3, none⟩ = some (.int .i64 le) /\ w'.cell? ⟨g, 2, none⟩ = some (.int .i64 n)) (go_keep) (first | (go_at_call 319; with_reducible refine Calls.mono (Hid.out (HC _ hO)) ?_; rintro e w4 ⟨rfl, hM⟩; obtain ⟨d0, d1, d2, d3, d4, d5, d6, d7, d8, d9, d10, d11, df⟩ := zZh hM.swap))
 all_goals
  have HM := hid hM
  clear hM hO HC
  go_wp2_with fail
  go_ret
  exact ⟨rfl, HM.out.swap⟩
theorem acc3_yes (hi : av < ws.length) (he : ws.getD av 0 = wa) (b0 : -9223372036854775808 <= wa - (n + ex)) (b1 : wa - (n + ex) <= 9223372036854775807) (dn : Int) (hdn : (if ex = 0 then (0 : Int) else 5) = dn) (e0 : 0 <= ex) (s0 : -9223372036854775808 <= n + ex) (s1 : n + ex <= 9223372036854775807) (hl : lg.length < 1000000)
 (h : Own w0 F0 (blk g (pmO 4 nd n le av mo wa ex er an) :: memA T m ws lg :: L) w) :
 Calls Tryz.prog 317 #[.pointer (some ⟨g, 0, none⟩), .pointer (some ⟨m, 0, none⟩)] w fun e w' => e = .returned (.int .i64 dn) /\
  Own w0 F0 (blk g (pmO 4 nd n le av mo wa ex er an) :: memA T m (ws.set av (wa - (n + ex))) (lg ++ [⟨3, av, wa, wa - (n + ex), true⟩]) :: L) w' := by
 have HC := fun w h => hid (zR0 (w0 := w0) (F0 := F0) (T := T) (m := m) (ws := ws) (lg := lg) (w := w) (L := L) (k := g) (nx := 4) (nd := nd) (n := n) (le := le) (av := av) (mo := mo) (wa := wa) (ex := ex) (er := er) (an := an) av (n + ex) (dn) (3) hi hl he b0 b1 h)
 obtain ⟨c0, c1, c2, c3, c4, c5, c6, c7, c8, c9, c10, c11, cf⟩ := zZh h
 have hO := h.swap.drew
 have hwr : IntKind.i64.wrap (n + ex) = n + ex := IntWalk.i64_in _ (by omega)
 have HB := fun w (h : Own w0 F0 (memA T m ws lg :: blk g (pmO 4 nd n le av mo wa ex er an) :: L) w) => hid (hdn ▸ zRl e0 h.swap)
 clear hdn
 clear h hi hl he
 go_enter Tryz.func317, Tryz.ntmps317
 go_wp2_with fail
 go_region_held3 (fun w' => w'.cell? ⟨g, 4, none⟩ = some (.int .i64 av) /\ w'.cell? ⟨g, 2, none⟩ = some (.int .i64 n) /\ w'.cell? ⟨g, 7, none⟩ = some (.int .i64 ex)) (go_keep) (first | (go_at_call 321; with_reducible refine Calls.mono (Hid.out (HB _ hO)) ?_; rintro e w4 ⟨rfl, rfl⟩) | (go_at_call 319; with_reducible refine Calls.mono (Hid.out (HC _ hO)) ?_; rintro e w4 ⟨rfl, hM⟩; obtain ⟨d0, d1, d2, d3, d4, d5, d6, d7, d8, d9, d10, d11, df⟩ := zZh hM.swap))
 all_goals
  have HM := hid hM
  clear hM hO HC
  go_wp2_with fail
  go_ret
  exact ⟨rfl, HM.out.swap⟩
theorem acc5_yes (hi : le < ws.length) (he : ws.getD le 0 = wa) (b0 : -9223372036854775808 <= wa - (-ex)) (b1 : wa - (-ex) <= 9223372036854775807) (s0 : -9223372036854775807 <= ex) (s1 : ex <= 9223372036854775807) (hl : lg.length < 1000000)
 (h : Own w0 F0 (blk g (pmO 6 nd n le av mo wa ex er an) :: memA T m ws lg :: L) w) :
 Calls Tryz.prog 317 #[.pointer (some ⟨g, 0, none⟩), .pointer (some ⟨m, 0, none⟩)] w fun e w' => e = .returned (.int .i64 0) /\
  Own w0 F0 (blk g (pmO 6 nd n le av mo wa ex er an) :: memA T m (ws.set le (wa - (-ex))) (lg ++ [⟨3, le, wa, wa - (-ex), true⟩]) :: L) w' := by
 have HC := fun w h => hid (zR0 (w0 := w0) (F0 := F0) (T := T) (m := m) (ws := ws) (lg := lg) (w := w) (L := L) (k := g) (nx := 6) (nd := nd) (n := n) (le := le) (av := av) (mo := mo) (wa := wa) (ex := ex) (er := er) (an := an) le (-ex) (0) (5) hi hl he b0 b1 h)
 obtain ⟨c0, c1, c2, c3, c4, c5, c6, c7, c8, c9, c10, c11, cf⟩ := zZh h
 have hO := h.swap.drew
 have hwr : IntKind.i64.wrap (-ex) = -ex := IntWalk.i64_in _ (by omega)
 clear h hi hl he
 go_enter Tryz.func317, Tryz.ntmps317
 go_wp2_with fail
 go_region_held3 (fun w' => w'.cell? ⟨g, 3, none⟩ = some (.int .i64 le) /\ w'.cell? ⟨g, 7, none⟩ = some (.int .i64 ex)) (go_keep) (first | (go_at_call 319; with_reducible refine Calls.mono (Hid.out (HC _ hO)) ?_; rintro e w4 ⟨rfl, hM⟩; obtain ⟨d0, d1, d2, d3, d4, d5, d6, d7, d8, d9, d10, d11, df⟩ := zZh hM.swap))
 all_goals
  have HM := hid hM
  clear hM hO HC
  go_wp2_with fail
  go_ret
  exact ⟨rfl, HM.out.swap⟩
theorem acc1_no (hi : le < ws.length) (he : ws.getD le 0 ≠ wa) (b0 : -9223372036854775808 <= wa - (n)) (b1 : wa - (n) <= 9223372036854775807)  (hl : lg.length < 1000000)
 (h : Own w0 F0 (blk g (pmO 2 nd n le av mo wa ex er an) :: memA T m ws lg :: L) w) :
 Calls Tryz.prog 317 #[.pointer (some ⟨g, 0, none⟩), .pointer (some ⟨m, 0, none⟩)] w fun e w' => e = .returned (.int .i64 1) /\
  Own w0 F0 (blk g (pmO 2 nd n le av mo wa ex er an) :: memA T m ws (lg ++ [⟨3, le, wa, wa - (n), false⟩]) :: L) w' := by
 have HC := fun w h => hid (take_no (w0 := w0) (F0 := F0) (T := T) (m := m) (ws := ws) (lg := lg) (w := w) (L := L) (k := g) (nx := 2) (nd := nd) (n := n) (le := le) (av := av) (mo := mo) (wa := wa) (ex := ex) (er := er) (an := an) le (n) (0) (1) hi hl he b0 b1 h)
 obtain ⟨c0, c1, c2, c3, c4, c5, c6, c7, c8, c9, c10, c11, cf⟩ := zZh h
 have hO := h.swap.drew
 clear h hi hl he
 go_enter Tryz.func317, Tryz.ntmps317
 go_wp2_with fail
 go_region_held3 (fun w' => w'.cell? ⟨g, 3, none⟩ = some (.int .i64 le) /\ w'.cell? ⟨g, 2, none⟩ = some (.int .i64 n)) (go_keep) (first | (go_at_call 319; with_reducible refine Calls.mono (Hid.out (HC _ hO)) ?_; rintro e w4 ⟨rfl, hM⟩; obtain ⟨d0, d1, d2, d3, d4, d5, d6, d7, d8, d9, d10, d11, df⟩ := zZh hM.swap))
 all_goals
  have HM := hid hM
  clear hM hO HC
  go_wp2_with fail
  go_ret
  exact ⟨rfl, HM.out.swap⟩
theorem acc3_no (hi : av < ws.length) (he : ws.getD av 0 ≠ wa) (b0 : -9223372036854775808 <= wa - (n + ex)) (b1 : wa - (n + ex) <= 9223372036854775807) (dn : Int) (hdn : (if ex = 0 then (0 : Int) else 5) = dn) (e0 : 0 <= ex) (s0 : -9223372036854775808 <= n + ex) (s1 : n + ex <= 9223372036854775807) (hl : lg.length < 1000000)
 (h : Own w0 F0 (blk g (pmO 4 nd n le av mo wa ex er an) :: memA T m ws lg :: L) w) :
 Calls Tryz.prog 317 #[.pointer (some ⟨g, 0, none⟩), .pointer (some ⟨m, 0, none⟩)] w fun e w' => e = .returned (.int .i64 3) /\
  Own w0 F0 (blk g (pmO 4 nd n le av mo wa ex er an) :: memA T m ws (lg ++ [⟨3, av, wa, wa - (n + ex), false⟩]) :: L) w' := by
 have HC := fun w h => hid (take_no (w0 := w0) (F0 := F0) (T := T) (m := m) (ws := ws) (lg := lg) (w := w) (L := L) (k := g) (nx := 4) (nd := nd) (n := n) (le := le) (av := av) (mo := mo) (wa := wa) (ex := ex) (er := er) (an := an) av (n + ex) (dn) (3) hi hl he b0 b1 h)
 obtain ⟨c0, c1, c2, c3, c4, c5, c6, c7, c8, c9, c10, c11, cf⟩ := zZh h
 have hO := h.swap.drew
 have hwr : IntKind.i64.wrap (n + ex) = n + ex := IntWalk.i64_in _ (by omega)
 have HB := fun w (h : Own w0 F0 (memA T m ws lg :: blk g (pmO 4 nd n le av mo wa ex er an) :: L) w) => hid (hdn ▸ zRl e0 h.swap)
 clear hdn
 clear h hi hl he
 go_enter Tryz.func317, Tryz.ntmps317
 go_wp2_with fail
 go_region_held3 (fun w' => w'.cell? ⟨g, 4, none⟩ = some (.int .i64 av) /\ w'.cell? ⟨g, 2, none⟩ = some (.int .i64 n) /\ w'.cell? ⟨g, 7, none⟩ = some (.int .i64 ex)) (go_keep) (first | (go_at_call 321; with_reducible refine Calls.mono (Hid.out (HB _ hO)) ?_; rintro e w4 ⟨rfl, rfl⟩) | (go_at_call 319; with_reducible refine Calls.mono (Hid.out (HC _ hO)) ?_; rintro e w4 ⟨rfl, hM⟩; obtain ⟨d0, d1, d2, d3, d4, d5, d6, d7, d8, d9, d10, d11, df⟩ := zZh hM.swap))
 all_goals
  have HM := hid hM
  clear hM hO HC
  go_wp2_with fail
  go_ret
  exact ⟨rfl, HM.out.swap⟩
theorem acc5_no (hi : le < ws.length) (he : ws.getD le 0 ≠ wa) (b0 : -9223372036854775808 <= wa - (-ex)) (b1 : wa - (-ex) <= 9223372036854775807) (s0 : -9223372036854775807 <= ex) (s1 : ex <= 9223372036854775807) (hl : lg.length < 1000000)
 (h : Own w0 F0 (blk g (pmO 6 nd n le av mo wa ex er an) :: memA T m ws lg :: L) w) :
 Calls Tryz.prog 317 #[.pointer (some ⟨g, 0, none⟩), .pointer (some ⟨m, 0, none⟩)] w fun e w' => e = .returned (.int .i64 5) /\
  Own w0 F0 (blk g (pmO 6 nd n le av mo wa ex er an) :: memA T m ws (lg ++ [⟨3, le, wa, wa - (-ex), false⟩]) :: L) w' := by
 have HC := fun w h => hid (take_no (w0 := w0) (F0 := F0) (T := T) (m := m) (ws := ws) (lg := lg) (w := w) (L := L) (k := g) (nx := 6) (nd := nd) (n := n) (le := le) (av := av) (mo := mo) (wa := wa) (ex := ex) (er := er) (an := an) le (-ex) (0) (5) hi hl he b0 b1 h)
 obtain ⟨c0, c1, c2, c3, c4, c5, c6, c7, c8, c9, c10, c11, cf⟩ := zZh h
 have hO := h.swap.drew
 have hwr : IntKind.i64.wrap (-ex) = -ex := IntWalk.i64_in _ (by omega)
 clear h hi hl he
 go_enter Tryz.func317, Tryz.ntmps317
 go_wp2_with fail
 go_region_held3 (fun w' => w'.cell? ⟨g, 3, none⟩ = some (.int .i64 le) /\ w'.cell? ⟨g, 7, none⟩ = some (.int .i64 ex)) (go_keep) (first | (go_at_call 319; with_reducible refine Calls.mono (Hid.out (HC _ hO)) ?_; rintro e w4 ⟨rfl, hM⟩; obtain ⟨d0, d1, d2, d3, d4, d5, d6, d7, d8, d9, d10, d11, df⟩ := zZh hM.swap))
 all_goals
  have HM := hid hM
  clear hM hO HC
  go_wp2_with fail
  go_ret
  exact ⟨rfl, HM.out.swap⟩
theorem acc6_any (hi : av < ws.length) (hl : lg.length < 1000000)
 (h : Own w0 F0 (blk g (pmO 7 nd n le av mo wa ex er an) :: memA T m ws lg :: L) w) :
 Calls Tryz.prog 317 #[.pointer (some ⟨g, 0, none⟩), .pointer (some ⟨m, 0, none⟩)] w fun e w' => e = .returned (.int .i64 0) /\
  Own w0 F0 (blk g (pmO 7 nd n le av mo wa ex er an) :: memA T m (ws.set av (wrap64 (ws.getD av 0 + ex))) (lg ++ [⟨2, av, ex, wrap64 (ws.getD av 0 + ex), false⟩]) :: L) w' := by
 have HC := fun w h => hid (zQ2 (w0 := w0) (F0 := F0) (T := T) (m := m) (ws := ws) (l := lg) (w := w) (L := blk g (pmO 7 nd n le av mo wa ex er an) :: L) av ex hi hl h)
 obtain ⟨c0, c1, c2, c3, c4, c5, c6, c7, c8, c9, c10, c11, cf⟩ := zZh h
 have hO := h.swap.drew
 clear h hi hl
 go_enter Tryz.func317, Tryz.ntmps317
 go_wp2_with fail
 go_region_held3 (fun w' => w'.cell? ⟨g, 4, none⟩ = some (.int .i64 av) /\ w'.cell? ⟨g, 7, none⟩ = some (.int .i64 ex)) (go_keep) (first | (go_at_call 179; with_reducible refine Calls.mono (Hid.out (HC _ hO)) ?_; rintro e w4 ⟨rfl, hM⟩; obtain ⟨d0, d1, d2, d3, d4, d5, d6, d7, d8, d9, d10, d11, df⟩ := zZh hM.swap))
 have HM := hid hM
 clear hM hO HC
 go_wp2_with fail
 go_ret
 exact ⟨rfl, HM.out.swap⟩
theorem acc9_any (r : Value) (h : Own w0 F0 (blk g (pmO 0 nd n le av mo wa ex er an) :: L) w) :
 Calls Tryz.prog 317 #[.pointer (some ⟨g, 0, none⟩), r] w fun e w' => e = .returned (.int .i64 0) /\ w = w' := by
 obtain ⟨c0, c1, c2, c3, c4, c5, c6, c7, c8, c9, c10, c11, cf⟩ := zZh h
 clear h
 go_enter Tryz.func317, Tryz.ntmps317
 go_wp2_with fail
 go_ret
 exact ⟨rfl, rfl⟩
theorem zZ9 (r : Value) (nx nn : Int) (wa' ex' er' an' : Int) (M : Asn)
 (hK : Calls Tryz.prog 317 #[.pointer (some ⟨g, 0, none⟩), r] w fun e w' => e = .returned (.int .i64 nn) /\ Own w0 F0 (blk g (pmO nx nd n le av mo wa' ex' er' an') :: M :: L) w')
 {L2 : List Asn} (h : Own w0 F0 (blk g (pmO nx nd n le av mo wa ex er an) :: L2) w) :
 Calls Tryz.prog 316 #[.pointer (some ⟨g, 0, none⟩), r] w fun e w' => e = .returned (.bool (nn == 0)) /\ Own w0 F0 (blk g (pmO nn nd n le av mo wa' ex' er' an') :: M :: L) w' := by
 have c0 : w.cell? ⟨g, 0, none⟩ = some (.int .i64 nx) := h.cell (i := 0) rfl
 have H1 := hid hK
 have fe : ∀ w : World, (binOp .eql 219 (.pointer (some ⟨g, 0, none⟩)) (.pointer none)).run Tryz.prog w = .ok (.bool false) w := fun w => by kernel_rfl
 clear h hK
 go_enter Tryz.func316, Tryz.ntmps316
 go_wp2_with fail
 refine H1.out.mono ?_
 rintro e w1 ⟨rfl, hO⟩
 obtain ⟨d0, d1, d2, d3, d4, d5, d6, d7, d8, d9, d10, d11, df⟩ := zZh hO
 have h2 := hid (hO.set 0 (.int .i64 nn))
 clear H1 hO c0
 go_wp2_with fail
 go_ret
 exact ⟨rfl, h2.out⟩
end
end
end Go.Proofs.YtdglnpfnjinbkaaGreat
