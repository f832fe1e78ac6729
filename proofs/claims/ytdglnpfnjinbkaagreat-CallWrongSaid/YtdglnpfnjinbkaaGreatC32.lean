/- Texts of elder layers, one behind the other: ShiftCalls. -/
import Derived.Test.YtdglnpfnjinbkaaGreatC21
import Derived.Deep.RegionHeld3
import Derived.Deep.QuietTactic
import Derived.BigQuiet
import Derived.Laws.EntriesVeiled
namespace Go.Proofs.YtdglnpfnjinbkaaGreat
open Go.ChangeShapes Go.WideShapes Go.ChangeAt Go.RowKit Go.Shelf
open Lib (hid)
set_option linter.unusedVariables false
set_option linter.unusedSimpArgs false
set_option maxRecDepth 100000
set_option maxHeartbeats 4000000
section
variable {w0 w w' : World} {F0 : Nat -> Prop} {L : List Asn} {T : TypeId} {m : Nat} {ws : List Int} {lg : List Acc} {pp pl : Option Addr} {np cp nl cl : Nat}
def smO (b len : Nat) (at_ nd n li av wa er an : Int) : Obj := .cells #[.slice (some ⟨b, 0, none⟩) len len, .int .i64 at_, .int .i64 nd, .int .i64 n, .int .i64 li, .int .i64 av, .int .i64 wa, .int .i64 er, .int .i64 0, .bool false, .int .i64 an] 200 (0, 0)
theorem zZl {k b len : Nat} {at_ nd n li av wa er an : Int} (h : Own w0 F0 (blk k (smO b len at_ nd n li av wa er an) :: L) w) :
 w.cell? ⟨k, 0, none⟩ = some (.slice (some ⟨b, 0, none⟩) len len) /\ w.cell? ⟨k, 1, none⟩ = some (.int .i64 at_) /\ w.cell? ⟨k, 2, none⟩ = some (.int .i64 nd) /\ w.cell? ⟨k, 3, none⟩ = some (.int .i64 n) /\ w.cell? ⟨k, 4, none⟩ = some (.int .i64 li) /\ w.cell? ⟨k, 5, none⟩ = some (.int .i64 av) /\ w.cell? ⟨k, 6, none⟩ = some (.int .i64 wa) /\ w.cell? ⟨k, 7, none⟩ = some (.int .i64 er) /\ w.cell? ⟨k, 8, none⟩ = some (.int .i64 0) /\ w.cell? ⟨k, 9, none⟩ = some (.bool false) /\ w.cell? ⟨k, 10, none⟩ = some (.int .i64 an) /\ ∀ j, w.frozen? ⟨k, j, none⟩ = false :=
 ⟨h.cell (i := 0) rfl, h.cell (i := 1) rfl, h.cell (i := 2) rfl, h.cell (i := 3) rfl, h.cell (i := 4) rfl, h.cell (i := 5) rfl, h.cell (i := 6) rfl, h.cell (i := 7) rfl, h.cell (i := 8) rfl, h.cell (i := 9) rfl, h.cell (i := 10) rfl, fun j => h.unfrozen⟩
section
variable {k b len : Nat} {at_ nd n li av wa er an : Int}
theorem zXq (h : Own w0 F0 (blk k (smO b len at_ nd n li av wa er an) :: L) w) (a0 : 0 <= at_) (a1 : at_ <= 10) : Calls Tryz.prog 177 #[.pointer (some ⟨k, 0, none⟩)] w fun e w' => e = .returned (.int .i64 (at_ + 1)) /\ w = w' := by
 have c1 : w.cell? ⟨k, 1, none⟩ = some (.int .i64 at_) := h.cell (i := 1) rfl
 clear h
 go_enter Tryz.func177, Tryz.ntmps177
 go_wp2_with fail
 go_ret
 exact ⟨rfl, rfl⟩
theorem zZ2 (q : Bool) (hq : decide ((len : Int) <= at_) = q) (h : Own w0 F0 (blk k (smO b len at_ nd n li av wa er an) :: L) w) : Calls Tryz.prog 306 #[.pointer (some ⟨k, 0, none⟩)] w fun e w' => e = .returned (.bool q) /\ Own w0 F0 (blk k (smO b len at_ nd n li av wa er an) :: L) w' := by
 obtain ⟨c0, c1, c2, c3, c4, c5, c6, c7, c8, c9, c10, cf⟩ := zZl h
 have hO := hid (fun q => h.drewN q)
 subst hq
 clear h
 go_enter Tryz.func306, Tryz.ntmps306
 go_wp2_with fail
 go_quiet (fail)
 go_wp2_with fail
 go_ret
 exact ⟨rfl, hO.out nq⟩
theorem zRd (e q : Int) (h : Own w0 F0 (blk k (smO b len at_ nd n li av wa er an) :: L) w) : Calls Tryz.prog 176 #[.pointer (some ⟨k, 0, none⟩), ansV e 0 false q] w fun e' w' => e' = .returned (.int .i64 len) /\ Own w0 F0 (blk k (smO b len at_ nd n li av wa e q) :: L) w' := by
 have h1 := h.new (.cells #[.int .i64 e, .int .i64 0, .bool false, .int .i64 q] 50)
 have b0 : (w.alloc (.cells #[.int .i64 e, .int .i64 0, .bool false, .int .i64 q] 50)).cell? ⟨w.heap.size, 0, none⟩ = some (.int .i64 e) := h1.cell (i := 0) rfl
 have b1 : (w.alloc (.cells #[.int .i64 e, .int .i64 0, .bool false, .int .i64 q] 50)).cell? ⟨w.heap.size, 1, none⟩ = some (.int .i64 0) := h1.cell (i := 1) rfl
 have b2 : (w.alloc (.cells #[.int .i64 e, .int .i64 0, .bool false, .int .i64 q] 50)).cell? ⟨w.heap.size, 2, none⟩ = some (.bool false) := h1.cell (i := 2) rfl
 have b3 : (w.alloc (.cells #[.int .i64 e, .int .i64 0, .bool false, .int .i64 q] 50)).cell? ⟨w.heap.size, 3, none⟩ = some (.int .i64 q) := h1.cell (i := 3) rfl
 obtain ⟨c0, c1, c2, c3, c4, c5, c6, c7, c8, c9, c10, cf⟩ := zZl h1.drop
 have hO := hid ((((h1.drop.set 7 (.int .i64 e)).set 8 (.int .i64 0)).set 9 (.bool false)).set 10 (.int .i64 q))
 have d0 := hO.out.cell (i := 0) rfl
 unfold ansV
 clear h h1
 go_enter Tryz.func176, Tryz.ntmps176
 go_wp2_with fail
 go_ret
 exact ⟨rfl, hO.out⟩
theorem move_yes (i : Nat) (d : Int) (a0 : 0 <= at_) (a1 : at_ <= 10) (hi : i < ws.length) (hl : lg.length < 1000000) (he : ws.getD i 0 = wa) (b0 : -9223372036854775808 <= wa + d) (b1 : wa + d <= 9223372036854775807)
 (h : Own w0 F0 (memA T m ws lg :: blk k (smO b len at_ nd n li av wa er an) :: L) w) :
 Calls Tryz.prog 178 #[.pointer (some ⟨k, 0, none⟩), .pointer (some ⟨m, 0, none⟩), .int .i64 i, .int .i64 d] w fun e w' =>
  e = .returned (.int .i64 (at_ + 1)) /\ Own w0 F0 (memA T m (ws.set i (wa + d)) (lg ++ [⟨3, i, wa, wa + d, true⟩]) :: blk k (smO b len at_ nd n li av wa er an) :: L) w' := by
 have HC := fun w h => hid (zSe (w0 := w0) (F0 := F0) (T := T) (m := m) (ws := ws) (l := lg) (w := w) (L := blk k (smO b len at_ nd n li av wa er an) :: L) i wa (wa + d) hi hl he h)
 obtain ⟨c0, c1, c2, c3, c4, c5, c6, c7, c8, c9, c10, cf⟩ := zZl h.swap
 have hO := h.drew
 have hwr : IntKind.i64.wrap (wa + d) = wa + d := IntWalk.i64_in _ (by omega)
 clear h hi hl he
 go_enter Tryz.func178, Tryz.ntmps178
 go_wp2_with fail
 go_region_held3 (fun w' => w'.cell? ⟨k, 6, none⟩ = some (.int .i64 wa)) (go_keep) (first | (go_at_call 219; with_reducible refine Calls.mono (Hid.out (HC _ hO)) ?_; rintro e w4 ⟨rfl, hM⟩; obtain ⟨d0, d1, d2, d3, d4, d5, d6, d7, d8, d9, d10, df⟩ := zZl hM.swap))
 have HM := hid hM
 have HN := hid (zXq hM.swap a0 a1)
 clear hM hO HC
 go_wp2_with fail
 refine HN.out.mono ?_
 rintro e w5 ⟨rfl, rfl⟩
 go_wp2_with fail
 go_ret
 exact ⟨rfl, HM.out⟩
theorem move_no (i : Nat) (d : Int) (a0 : 0 <= at_) (a1 : at_ <= 10) (hi : i < ws.length) (hl : lg.length < 1000000) (he : ws.getD i 0 ≠ wa) (b0 : -9223372036854775808 <= wa + d) (b1 : wa + d <= 9223372036854775807)
 (h : Own w0 F0 (memA T m ws lg :: blk k (smO b len at_ nd n li av wa er an) :: L) w) :
 Calls Tryz.prog 178 #[.pointer (some ⟨k, 0, none⟩), .pointer (some ⟨m, 0, none⟩), .int .i64 i, .int .i64 d] w fun e w' =>
  e = .returned (.int .i64 0) /\ Own w0 F0 (memA T m ws (lg ++ [⟨3, i, wa, wa + d, false⟩]) :: blk k (smO b len at_ nd n li av wa er an) :: L) w' := by
 have HC := fun w h => hid (Cas_no (w0 := w0) (F0 := F0) (T := T) (m := m) (ws := ws) (l := lg) (w := w) (L := blk k (smO b len at_ nd n li av wa er an) :: L) i wa (wa + d) hi hl he h)
 obtain ⟨c0, c1, c2, c3, c4, c5, c6, c7, c8, c9, c10, cf⟩ := zZl h.swap
 have hO := h.drew
 have hwr : IntKind.i64.wrap (wa + d) = wa + d := IntWalk.i64_in _ (by omega)
 clear h hi hl he
 go_enter Tryz.func178, Tryz.ntmps178
 go_wp2_with fail
 go_region_held3 (fun w' => w'.cell? ⟨k, 6, none⟩ = some (.int .i64 wa)) (go_keep) (first | (go_at_call 219; with_reducible refine Calls.mono (Hid.out (HC _ hO)) ?_; rintro e w4 ⟨rfl, hM⟩; obtain ⟨d0, d1, d2, d3, d4, d5, d6, d7, d8, d9, d10, df⟩ := zZl hM.swap))
 have HM := hid hM
 clear hM hO HC
 go_wp2_with fail
 go_ret
 exact ⟨rfl, HM.out⟩
theorem zQg (i : Nat) (y : Int) (hy : ws.getD i 0 = y) (hi : i < ws.length) (hl : lg.length < 1000000) (h : Own w0 F0 (memA T m ws lg :: L) w) :
 Calls Tryz.prog 167 #[.pointer (some ⟨m, 0, none⟩), .int .i64 i] w fun e w' =>
  e = .returned (.int .i64 y) /\ Own w0 F0 (memA T m ws (lg ++ [⟨1, i, y, 0, false⟩]) :: L) w' := by
 subst hy; exact zY9 i hi hl h
theorem zQs (q : Nat) (y : Int) (a0 : 0 <= at_) (a1 : at_ <= 10) (hi : q < ws.length) (hy : ws.getD q 0 = y) (y0 : -9223372036854775808 <= y + n) (y1 : y + n <= 9223372036854775807) (hc : 1099511627776 < y + n) (hl : lg.length < 1000000)
 (h : Own w0 F0 (blk k (smO b len at_ nd n q av wa er an) :: memA T m ws lg :: L) w) :
 Calls Tryz.prog 132 #[.pointer (some ⟨k, 0, none⟩), .pointer (some ⟨m, 0, none⟩)] w fun e w' =>
  e = .returned (.int .i64 len) /\ Own w0 F0 (blk k (smO b len at_ nd n q av y 6 0) :: memA T m ws (lg ++ [⟨1, q, y, 0, false⟩]) :: L) w' := by
 have H1 := hid (zQg (L := blk k (smO b len at_ nd n q av wa er an) :: L) q y hy hi hl h.swap)
 obtain ⟨c0, c1, c2, c3, c4, c5, c6, c7, c8, c9, c10, cf⟩ := zZl h
 have hwr : IntKind.i64.wrap (y + n) = y + n := IntWalk.i64_in _ (by omega)
 clear h hi hy hl
 go_enter Tryz.func132, Tryz.ntmps132
 go_wp2_with fail
 refine H1.out.mono ?_
 rintro e w1 ⟨rfl, hM⟩
 obtain ⟨d0, d1, d2, d3, d4, d5, d6, d7, d8, d9, d10, df⟩ := zZl hM.swap
 have h2 := hid (hM.swap.set 6 (.int .i64 y))
 clear H1 hM c0 c1 c2 c3 c4 c5 c6 c7 c8 c9 c10 cf
 go_wp2_with fail
 have h3 : Own w0 F0 (blk k (smO b len at_ nd n q av y er an) :: memA T m ws (lg ++ [⟨1, q, y, 0, false⟩]) :: L) _ := h2.out
 generalize World.setCell _ _ _ = w2 at h3 ⊢
 clear h2 d0 d1 d2 d3 d4 d5 d6 d7 d8 d9 d10 df
 obtain ⟨e0, e1, e2, e3, e4, e5, e6, e7, e8, e9, e10, ef⟩ := zZl h3
 have hO := hid (fun q => h3.drewN q)
 clear h3
 go_quiet (fail)
 have h4 := hO.out nq
 have H4 := hid h4
 clear hO e0 e1 e2 e3 e4 e5 e6 e7 e8 e9 e10 ef
 generalize w2.drewN nq = w3 at *
 obtain ⟨u0, u1, u2, u3, u4, u5, u6, u7, u8, u9, u10, uf⟩ := zZl h4
 clear h4
 go_wp2_with fail
 refine (zRd 6 0 H4.out).mono ?_
 rintro e w5 ⟨rfl, h5⟩
 have H5 := hid h5
 clear h5
 go_wp2_with fail
 go_ret
 exact ⟨rfl, H5.out⟩
theorem findLimit_no (q : Nat) (y : Int) (a0 : 0 <= at_) (a1 : at_ <= 10) (hi : q < ws.length) (hy : ws.getD q 0 = y) (y0 : -9223372036854775808 <= y + n) (y1 : y + n <= 9223372036854775807) (hc : y + n <= 1099511627776) (hl : lg.length < 1000000)
 (h : Own w0 F0 (blk k (smO b len at_ nd n q av wa er an) :: memA T m ws lg :: L) w) :
 Calls Tryz.prog 132 #[.pointer (some ⟨k, 0, none⟩), .pointer (some ⟨m, 0, none⟩)] w fun e w' =>
  e = .returned (.int .i64 (at_ + 1)) /\ Own w0 F0 (blk k (smO b len at_ nd n q av y er an) :: memA T m ws (lg ++ [⟨1, q, y, 0, false⟩]) :: L) w' := by
 have H1 := hid (zQg (L := blk k (smO b len at_ nd n q av wa er an) :: L) q y hy hi hl h.swap)
 obtain ⟨c0, c1, c2, c3, c4, c5, c6, c7, c8, c9, c10, cf⟩ := zZl h
 have hwr : IntKind.i64.wrap (y + n) = y + n := IntWalk.i64_in _ (by omega)
 clear h hi hy hl
 go_enter Tryz.func132, Tryz.ntmps132
 go_wp2_with fail
 refine H1.out.mono ?_
 rintro e w1 ⟨rfl, hM⟩
 obtain ⟨d0, d1, d2, d3, d4, d5, d6, d7, d8, d9, d10, df⟩ := zZl hM.swap
 have h2 := hid (hM.swap.set 6 (.int .i64 y))
 clear H1 hM c0 c1 c2 c3 c4 c5 c6 c7 c8 c9 c10 cf
 go_wp2_with fail
 have h3 : Own w0 F0 (blk k (smO b len at_ nd n q av y er an) :: memA T m ws (lg ++ [⟨1, q, y, 0, false⟩]) :: L) _ := h2.out
 generalize World.setCell _ _ _ = w2 at h3 ⊢
 clear h2 d0 d1 d2 d3 d4 d5 d6 d7 d8 d9 d10 df
 obtain ⟨e0, e1, e2, e3, e4, e5, e6, e7, e8, e9, e10, ef⟩ := zZl h3
 have hO := hid (fun q => h3.drewN q)
 clear h3
 go_quiet (fail)
 have h4 := hO.out nq
 have H4 := hid h4
 clear hO e0 e1 e2 e3 e4 e5 e6 e7 e8 e9 e10 ef
 generalize w2.drewN nq = w3 at *
 obtain ⟨u0, u1, u2, u3, u4, u5, u6, u7, u8, u9, u10, uf⟩ := zZl h4
 clear h4
 go_wp2_with fail
 refine (zXq H4.out a0 a1).mono ?_
 rintro e w5 ⟨rfl, rfl⟩
 go_wp2_with fail
 go_ret
 exact ⟨rfl, H4.out⟩
theorem zQt (q : Nat) (y : Int) (a0 : 0 <= at_) (a1 : at_ <= 10) (hi : q < ws.length) (hy : ws.getD q 0 = y) (y0 : -9223372036854775808 <= y + n) (y1 : y + n <= 9223372036854775807) (hc : y < n) (hl : lg.length < 1000000)
 (h : Own w0 F0 (blk k (smO b len at_ nd n li q wa er an) :: memA T m ws lg :: L) w) :
 Calls Tryz.prog 135 #[.pointer (some ⟨k, 0, none⟩), .pointer (some ⟨m, 0, none⟩)] w fun e w' =>
  e = .returned (.int .i64 len) /\ Own w0 F0 (blk k (smO b len at_ nd n li q y 4 nd) :: memA T m ws (lg ++ [⟨1, q, y, 0, false⟩]) :: L) w' := by
 have H1 := hid (zQg (L := blk k (smO b len at_ nd n li q wa er an) :: L) q y hy hi hl h.swap)
 obtain ⟨c0, c1, c2, c3, c4, c5, c6, c7, c8, c9, c10, cf⟩ := zZl h
 have hwr : IntKind.i64.wrap (y + n) = y + n := IntWalk.i64_in _ (by omega)
 clear h hi hy hl
 go_enter Tryz.func135, Tryz.ntmps135
 go_wp2_with fail
 refine H1.out.mono ?_
 rintro e w1 ⟨rfl, hM⟩
 obtain ⟨d0, d1, d2, d3, d4, d5, d6, d7, d8, d9, d10, df⟩ := zZl hM.swap
 have h2 := hid (hM.swap.set 6 (.int .i64 y))
 clear H1 hM c0 c1 c2 c3 c4 c5 c6 c7 c8 c9 c10 cf
 go_wp2_with fail
 have h3 : Own w0 F0 (blk k (smO b len at_ nd n li q y er an) :: memA T m ws (lg ++ [⟨1, q, y, 0, false⟩]) :: L) _ := h2.out
 generalize World.setCell _ _ _ = w2 at h3 ⊢
 clear h2 d0 d1 d2 d3 d4 d5 d6 d7 d8 d9 d10 df
 obtain ⟨e0, e1, e2, e3, e4, e5, e6, e7, e8, e9, e10, ef⟩ := zZl h3
 have hO := hid (fun q => h3.drewN q)
 clear h3
 go_quiet (fail)
 have h4 := hO.out nq
 have H4 := hid h4
 clear hO e0 e1 e2 e3 e4 e5 e6 e7 e8 e9 e10 ef
 generalize w2.drewN nq = w3 at *
 obtain ⟨u0, u1, u2, u3, u4, u5, u6, u7, u8, u9, u10, uf⟩ := zZl h4
 clear h4
 go_wp2_with fail
 refine (zRd 4 nd H4.out).mono ?_
 rintro e w5 ⟨rfl, h5⟩
 have H5 := hid h5
 clear h5
 go_wp2_with fail
 go_ret
 exact ⟨rfl, H5.out⟩
theorem findAvail_no (q : Nat) (y : Int) (a0 : 0 <= at_) (a1 : at_ <= 10) (hi : q < ws.length) (hy : ws.getD q 0 = y) (y0 : -9223372036854775808 <= y + n) (y1 : y + n <= 9223372036854775807) (hc : n <= y) (hl : lg.length < 1000000)
 (h : Own w0 F0 (blk k (smO b len at_ nd n li q wa er an) :: memA T m ws lg :: L) w) :
 Calls Tryz.prog 135 #[.pointer (some ⟨k, 0, none⟩), .pointer (some ⟨m, 0, none⟩)] w fun e w' =>
  e = .returned (.int .i64 (at_ + 1)) /\ Own w0 F0 (blk k (smO b len at_ nd n li q y er an) :: memA T m ws (lg ++ [⟨1, q, y, 0, false⟩]) :: L) w' := by
 have H1 := hid (zQg (L := blk k (smO b len at_ nd n li q wa er an) :: L) q y hy hi hl h.swap)
 obtain ⟨c0, c1, c2, c3, c4, c5, c6, c7, c8, c9, c10, cf⟩ := zZl h
 have hwr : IntKind.i64.wrap (y + n) = y + n := IntWalk.i64_in _ (by omega)
 clear h hi hy hl
 go_enter Tryz.func135, Tryz.ntmps135
 go_wp2_with fail
 refine H1.out.mono ?_
 rintro e w1 ⟨rfl, hM⟩
 obtain ⟨d0, d1, d2, d3, d4, d5, d6, d7, d8, d9, d10, df⟩ := zZl hM.swap
 have h2 := hid (hM.swap.set 6 (.int .i64 y))
 clear H1 hM c0 c1 c2 c3 c4 c5 c6 c7 c8 c9 c10 cf
 go_wp2_with fail
 have h3 : Own w0 F0 (blk k (smO b len at_ nd n li q y er an) :: memA T m ws (lg ++ [⟨1, q, y, 0, false⟩]) :: L) _ := h2.out
 generalize World.setCell _ _ _ = w2 at h3 ⊢
 clear h2 d0 d1 d2 d3 d4 d5 d6 d7 d8 d9 d10 df
 obtain ⟨e0, e1, e2, e3, e4, e5, e6, e7, e8, e9, e10, ef⟩ := zZl h3
 have hO := hid (fun q => h3.drewN q)
 clear h3
 go_quiet (fail)
 have h4 := hO.out nq
 have H4 := hid h4
 clear hO e0 e1 e2 e3 e4 e5 e6 e7 e8 e9 e10 ef
 generalize w2.drewN nq = w3 at *
 obtain ⟨u0, u1, u2, u3, u4, u5, u6, u7, u8, u9, u10, uf⟩ := zZl h4
 clear h4
 go_wp2_with fail
 refine (zXq H4.out a0 a1).mono ?_
 rintro e w5 ⟨rfl, rfl⟩
 go_wp2_with fail
 go_ret
 exact ⟨rfl, H4.out⟩
theorem zSr (q : Nat) (a0 : 0 <= at_) (a1 : at_ <= 10) (hi : q < ws.length) (he : ws.getD q 0 = wa) (n0 : -9223372036854775807 <= n) (n1 : n <= 9223372036854775807) (b0 : -9223372036854775808 <= wa + n) (b1 : wa + n <= 9223372036854775807) (hl : lg.length < 1000000)
 (h : Own w0 F0 (blk k (smO b len at_ nd n q av wa er an) :: memA T m ws lg :: L) w) :
 Calls Tryz.prog 133 #[.pointer (some ⟨k, 0, none⟩), .pointer (some ⟨m, 0, none⟩)] w fun e w' =>
  e = .returned (.int .i64 (at_ + 1)) /\ Own w0 F0 (blk k (smO b len at_ nd n q av wa er an) :: memA T m (ws.set q (wa + n)) (lg ++ [⟨3, q, wa, wa + n, true⟩]) :: L) w' := by
 have HC := fun w h => hid (move_yes (w0 := w0) (F0 := F0) (T := T) (m := m) (ws := ws) (lg := lg) (w := w) (L := L) (k := k) (b := b) (len := len) (at_ := at_) (nd := nd) (n := n) (li := q) (av := av) (wa := wa) (er := er) (an := an) q n a0 a1 hi hl he b0 b1 h)
 obtain ⟨c0, c1, c2, c3, c4, c5, c6, c7, c8, c9, c10, cf⟩ := zZl h
 have hO := h.swap.drew
 clear h hi hl he
 go_enter Tryz.func133, Tryz.ntmps133
 go_wp2_with fail
 go_region_held3 (fun w' => w'.cell? ⟨k, 4, none⟩ = some (.int .i64 q) /\ w'.cell? ⟨k, 3, none⟩ = some (.int .i64 n)) (go_keep) (first | (go_at_call 178; with_reducible refine Calls.mono (Hid.out (HC _ hO)) ?_; rintro e w4 ⟨rfl, hM⟩; obtain ⟨d0, d1, d2, d3, d4, d5, d6, d7, d8, d9, d10, df⟩ := zZl hM.swap))
 all_goals
  have HM := hid hM
  clear hM hO HC
  go_wp2_with fail
  go_ret
  exact ⟨rfl, HM.out.swap⟩
theorem zQc (q : Nat) (a0 : 0 <= at_) (a1 : at_ <= 10) (hi : q < ws.length) (he : ws.getD q 0 ≠ wa) (n0 : -9223372036854775807 <= n) (n1 : n <= 9223372036854775807) (b0 : -9223372036854775808 <= wa + n) (b1 : wa + n <= 9223372036854775807) (hl : lg.length < 1000000)
 (h : Own w0 F0 (blk k (smO b len at_ nd n q av wa er an) :: memA T m ws lg :: L) w) :
 Calls Tryz.prog 133 #[.pointer (some ⟨k, 0, none⟩), .pointer (some ⟨m, 0, none⟩)] w fun e w' =>
  e = .returned (.int .i64 0) /\ Own w0 F0 (blk k (smO b len at_ nd n q av wa er an) :: memA T m ws (lg ++ [⟨3, q, wa, wa + n, false⟩]) :: L) w' := by
 have HC := fun w h => hid (move_no (w0 := w0) (F0 := F0) (T := T) (m := m) (ws := ws) (lg := lg) (w := w) (L := L) (k := k) (b := b) (len := len) (at_ := at_) (nd := nd) (n := n) (li := q) (av := av) (wa := wa) (er := er) (an := an) q n a0 a1 hi hl he b0 b1 h)
 obtain ⟨c0, c1, c2, c3, c4, c5, c6, c7, c8, c9, c10, cf⟩ := zZl h
 have hO := h.swap.drew
 clear h hi hl he
 go_enter Tryz.func133, Tryz.ntmps133
 go_wp2_with fail
 go_region_held3 (fun w' => w'.cell? ⟨k, 4, none⟩ = some (.int .i64 q) /\ w'.cell? ⟨k, 3, none⟩ = some (.int .i64 n)) (go_keep) (first | (go_at_call 178; with_reducible refine Calls.mono (Hid.out (HC _ hO)) ?_; rintro e w4 ⟨rfl, hM⟩; obtain ⟨d0, d1, d2, d3, d4, d5, d6, d7, d8, d9, d10, df⟩ := zZl hM.swap))
 all_goals
  have HM := hid hM
  clear hM hO HC
  go_wp2_with fail
  go_ret
  exact ⟨rfl, HM.out.swap⟩
theorem zR1 (q : Nat) (a0 : 0 <= at_) (a1 : at_ <= 10) (hi : q < ws.length) (he : ws.getD q 0 = wa) (n0 : -9223372036854775807 <= n) (n1 : n <= 9223372036854775807) (b0 : -9223372036854775808 <= wa + -n) (b1 : wa + -n <= 9223372036854775807) (hl : lg.length < 1000000)
 (h : Own w0 F0 (blk k (smO b len at_ nd n li q wa er an) :: memA T m ws lg :: L) w) :
 Calls Tryz.prog 136 #[.pointer (some ⟨k, 0, none⟩), .pointer (some ⟨m, 0, none⟩)] w fun e w' =>
  e = .returned (.int .i64 (at_ + 1)) /\ Own w0 F0 (blk k (smO b len at_ nd n li q wa er an) :: memA T m (ws.set q (wa + -n)) (lg ++ [⟨3, q, wa, wa + -n, true⟩]) :: L) w' := by
 have HC := fun w h => hid (move_yes (w0 := w0) (F0 := F0) (T := T) (m := m) (ws := ws) (lg := lg) (w := w) (L := L) (k := k) (b := b) (len := len) (at_ := at_) (nd := nd) (n := n) (li := li) (av := q) (wa := wa) (er := er) (an := an) q (-n) a0 a1 hi hl he b0 b1 h)
 obtain ⟨c0, c1, c2, c3, c4, c5, c6, c7, c8, c9, c10, cf⟩ := zZl h
 have hO := h.swap.drew
 have hwr : IntKind.i64.wrap (-n) = -n := IntWalk.i64_in _ (by omega)
 clear h hi hl he
 go_enter Tryz.func136, Tryz.ntmps136
 go_wp2_with fail
 go_region_held3 (fun w' => w'.cell? ⟨k, 5, none⟩ = some (.int .i64 q) /\ w'.cell? ⟨k, 3, none⟩ = some (.int .i64 n)) (go_keep) (first | (go_at_call 178; with_reducible refine Calls.mono (Hid.out (HC _ hO)) ?_; rintro e w4 ⟨rfl, hM⟩; obtain ⟨d0, d1, d2, d3, d4, d5, d6, d7, d8, d9, d10, df⟩ := zZl hM.swap))
 all_goals
  have HM := hid hM
  clear hM hO HC
  go_wp2_with fail
  go_ret
  exact ⟨rfl, HM.out.swap⟩
theorem takeAvail_no (q : Nat) (a0 : 0 <= at_) (a1 : at_ <= 10) (hi : q < ws.length) (he : ws.getD q 0 ≠ wa) (n0 : -9223372036854775807 <= n) (n1 : n <= 9223372036854775807) (b0 : -9223372036854775808 <= wa + -n) (b1 : wa + -n <= 9223372036854775807) (hl : lg.length < 1000000)
 (h : Own w0 F0 (blk k (smO b len at_ nd n li q wa er an) :: memA T m ws lg :: L) w) :
 Calls Tryz.prog 136 #[.pointer (some ⟨k, 0, none⟩), .pointer (some ⟨m, 0, none⟩)] w fun e w' =>
  e = .returned (.int .i64 0) /\ Own w0 F0 (blk k (smO b len at_ nd n li q wa er an) :: memA T m ws (lg ++ [⟨3, q, wa, wa + -n, false⟩]) :: L) w' := by
 have HC := fun w h => hid (move_no (w0 := w0) (F0 := F0) (T := T) (m := m) (ws := ws) (lg := lg) (w := w) (L := L) (k := k) (b := b) (len := len) (at_ := at_) (nd := nd) (n := n) (li := li) (av := q) (wa := wa) (er := er) (an := an) q (-n) a0 a1 hi hl he b0 b1 h)
 obtain ⟨c0, c1, c2, c3, c4, c5, c6, c7, c8, c9, c10, cf⟩ := zZl h
 have hO := h.swap.drew
 have hwr : IntKind.i64.wrap (-n) = -n := IntWalk.i64_in _ (by omega)
 clear h hi hl he
 go_enter Tryz.func136, Tryz.ntmps136
 go_wp2_with fail
 go_region_held3 (fun w' => w'.cell? ⟨k, 5, none⟩ = some (.int .i64 q) /\ w'.cell? ⟨k, 3, none⟩ = some (.int .i64 n)) (go_keep) (first | (go_at_call 178; with_reducible refine Calls.mono (Hid.out (HC _ hO)) ?_; rintro e w4 ⟨rfl, hM⟩; obtain ⟨d0, d1, d2, d3, d4, d5, d6, d7, d8, d9, d10, df⟩ := zZl hM.swap))
 all_goals
  have HM := hid hM
  clear hM hO HC
  go_wp2_with fail
  go_ret
  exact ⟨rfl, HM.out.swap⟩
theorem zXl (q : Nat) (a0 : 0 <= at_) (a1 : at_ <= 10) (hi : q < ws.length) (n0 : -9223372036854775807 <= n) (n1 : n <= 9223372036854775807) (hl : lg.length < 1000000)
 (h : Own w0 F0 (blk k (smO b len at_ nd n li q wa er an) :: memA T m ws lg :: L) w) :
 Calls Tryz.prog 134 #[.pointer (some ⟨k, 0, none⟩), .pointer (some ⟨m, 0, none⟩)] w fun e w' =>
  e = .returned (.int .i64 (at_ + 1)) /\ Own w0 F0 (blk k (smO b len at_ nd n li q wa er an) :: memA T m (ws.set q (wrap64 (ws.getD q 0 + n))) (lg ++ [⟨2, q, n, wrap64 (ws.getD q 0 + n), false⟩]) :: L) w' := by
 have HC := fun w h => hid (zQ2 (w0 := w0) (F0 := F0) (T := T) (m := m) (ws := ws) (l := lg) (w := w) (L := blk k (smO b len at_ nd n li q wa er an) :: L) q n hi hl h)
 obtain ⟨c0, c1, c2, c3, c4, c5, c6, c7, c8, c9, c10, cf⟩ := zZl h
 have hO := h.swap.drew
 clear h hi hl
 go_enter Tryz.func134, Tryz.ntmps134
 go_wp2_with fail
 go_region_held3 (fun w' => w'.cell? ⟨k, 5, none⟩ = some (.int .i64 q) /\ w'.cell? ⟨k, 3, none⟩ = some (.int .i64 n)) (go_keep) (first | (go_at_call 179; with_reducible refine Calls.mono (Hid.out (HC _ hO)) ?_; rintro e w4 ⟨rfl, hM⟩; obtain ⟨d0, d1, d2, d3, d4, d5, d6, d7, d8, d9, d10, df⟩ := zZl hM.swap))
 all_goals
  have HM := hid hM
  have HN := hid (zXq hM.swap a0 a1)
  clear hM hO HC
  go_wp2_with fail
  refine HN.out.mono ?_
  rintro e w5 ⟨rfl, rfl⟩
  go_wp2_with fail
  go_ret
  exact ⟨rfl, HM.out.swap⟩
theorem zSt (q : Nat) (a0 : 0 <= at_) (a1 : at_ <= 10) (hi : q < ws.length) (n0 : -9223372036854775807 <= n) (n1 : n <= 9223372036854775807) (hl : lg.length < 1000000)
 (h : Own w0 F0 (blk k (smO b len at_ nd n q av wa er an) :: memA T m ws lg :: L) w) :
 Calls Tryz.prog 137 #[.pointer (some ⟨k, 0, none⟩), .pointer (some ⟨m, 0, none⟩)] w fun e w' =>
  e = .returned (.int .i64 (at_ + 1)) /\ Own w0 F0 (blk k (smO b len at_ nd n q av wa er an) :: memA T m (ws.set q (wrap64 (ws.getD q 0 + -n))) (lg ++ [⟨2, q, -n, wrap64 (ws.getD q 0 + -n), false⟩]) :: L) w' := by
 have HC := fun w h => hid (zQ2 (w0 := w0) (F0 := F0) (T := T) (m := m) (ws := ws) (l := lg) (w := w) (L := blk k (smO b len at_ nd n q av wa er an) :: L) q (-n) hi hl h)
 obtain ⟨c0, c1, c2, c3, c4, c5, c6, c7, c8, c9, c10, cf⟩ := zZl h
 have hO := h.swap.drew
 have hwr : IntKind.i64.wrap (-n) = -n := IntWalk.i64_in _ (by omega)
 clear h hi hl
 go_enter Tryz.func137, Tryz.ntmps137
 go_wp2_with fail
 go_region_held3 (fun w' => w'.cell? ⟨k, 4, none⟩ = some (.int .i64 q) /\ w'.cell? ⟨k, 3, none⟩ = some (.int .i64 n)) (go_keep) (first | (go_at_call 179; with_reducible refine Calls.mono (Hid.out (HC _ hO)) ?_; rintro e w4 ⟨rfl, hM⟩; obtain ⟨d0, d1, d2, d3, d4, d5, d6, d7, d8, d9, d10, df⟩ := zZl hM.swap))
 all_goals
  have HM := hid hM
  have HN := hid (zXq hM.swap a0 a1)
  clear hM hO HC
  go_wp2_with fail
  refine HN.out.mono ?_
  rintro e w5 ⟨rfl, rfl⟩
  go_wp2_with fail
  go_ret
  exact ⟨rfl, HM.out.swap⟩
end
end
end Go.Proofs.YtdglnpfnjinbkaaGreat
