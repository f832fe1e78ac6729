/- PlanFresh. Written by tools/gen_law5.py. -/
import Derived.Test.YtnpjafiedbigaaaPlanHead
import Derived.Test.YtnpjafiedbigaaaRowMore
namespace Go.Proofs.Ytnpjafiedbigaaa
open Go.ChangeShapes Go.WideShapes Go.ChangeAt Go.RowKit Go.Shelf
set_option linter.unusedVariables false
theorem Own.fresh {W w : World} {g : Nat} {o : Obj} {L : List Asn} (h : Own W (fun _ => False) (blk g o :: L) w) : W.heap.size ≤ g := by
  obtain ⟨_, F, ⟨F1, F2, h1, _, _, hF⟩, hin⟩ := h
  rcases hin g ((hF g).2 (Or.inl ((h1.2 g).2 rfl))) with h | h
  · exact h.elim
  · exact h
theorem intC_set (ws : List Int) (i : Nat) (x : Int) : (intC ws).toArray.setIfInBounds i (.int .i64 x) = (intC (ws.set i x)).toArray := by simp [intC]
theorem zeroInts_arr (n : Nat) : zeroInts n = (intC (List.replicate n 0)).toArray := by
  apply Array.ext'
  rw [zeroInts_list]
theorem want_row {W w : World} {F0 : Nat → Prop} {L : List Asn} {g : Nat} {ws : List Int} (hn : ws.length ≤ 1000000) (h : Own W F0 (blk g (.cells (intC ws).toArray 3 (0, 0)) :: L) w) : IntsAt w .i64 (.slice (some ⟨g, 0, none⟩) ws.length ws.length) ws := by
  refine Own.intsAt (w0 := W) (F0 := F0) (L := L) ?_
  exact h.blkRow (n := ws.length) (cap := ws.length) (size := 1) (xs := intC ws) (Nat.le_refl _) (by unfold maxLen; omega) (by simp [intC]) (by rw [List.take_of_length_le (by simp [intC])]) (by simp [intC])
theorem Fresh_own {W w : World} {b : Nat} {c : Cf} {pp : Option Addr} {cp : Nat} {vl : Value} {L : List Asn} (H : Has W c (.slice pp c.ps.length cp) vl) (h : Own W (fun _ => False) L w) :
    Calls Try.prog 24 #[cfV c (.slice pp c.ps.length cp) vl] w (RetMem W (fun _ => False) L 57 (freshW c c.ps.length) []) :=
  Fresh_any c H.rt (fun w' h' => H.l.below (Own.toBelow h')) h
theorem PlanFresh_wrong (W : World) (c : Cf) (hw : Wide c) {vp vl : Value} (hp : IntsAt W .i64 vp c.ps) (hl : IntsAt W .i64 vl c.ls) (h : ¬ c.Rt)  :
    Calls Try.prog 5 #[cfV c vp vl] W fun e w' => e = .returned (.bool true) ∧ Below W.heap.size W w' := by
  obtain ⟨pp, cp, rfl⟩ := hp.slice
  obtain ⟨pl, cl, rfl⟩ := hl.slice
  have Hh := Lib.hid (head5_any (St.start W c (.slice pp c.ps.length cp) (.slice pl c.ls.length cl)))
  have HG := fun w' (hb : Stp W w') => Lib.hid (Good_no c hw h (hp.stp hb) (hl.stp hb))
  clear h hp hl hw
  go_enter Try.func5, Try.ntmps5
  go_wp2_with fail
  refine Hh.out.mono ?_
  rintro e w1 ⟨rfl, hS⟩
  obtain ⟨d0, d1, d2, d3, d4, d5, d6, d7⟩ := St.cells hS
  go_wp2_with fail
  refine (HG _ (Own.toBelow hS)).out.mono ?_
  rintro e w2 ⟨rfl, hB⟩
  have hS := St.below hS hB
  clear hB HG Hh d0 d1 d2 d3 d4 d5 d6 d7
  obtain ⟨d0, d1, d2, d3, d4, d5, d6, d7⟩ := St.cells hS
  have HO := Lib.hid hS.toBelow
  clear hS
  go_wp2_with fail
  go_ret
  exact ⟨rfl, HO.out⟩
set_option maxRecDepth 100000 in
set_option maxHeartbeats 4000000 in
theorem PlanFresh_main (W : World) (c : Cf) {vp vl : Value} (H : Has W c vp vl)  :
    Calls Try.prog 5 #[cfV c vp vl] W fun e w' => e = .returned (.bool true) ∧ Below W.heap.size W w' := by
  obtain ⟨pp, cp, rfl⟩ := H.p.slice
  obtain ⟨pl, cl, rfl⟩ := H.l.slice
  have Hh := Lib.hid (head5_any (St.start W c (.slice pp c.ps.length cp) (.slice pl c.ls.length cl)))
  have HG := fun w' (hb : Stp W w') => Lib.hid (Good_yes c H.wf H.rt (H.p.stp hb) (H.l.stp hb))
  have hn0 := H.rt.n0
  have hn1 := H.rt.n1
  have hs := H.rt.sm
  have ht := H.rt.ti
  unfold Bd at ht
  obtain ⟨t0, t1⟩ := ht
  have hlb := fun (x : Int) (h0 : 0 ≤ x) (h1 : x ≤ 13) => lim_bd hs h0 h1
  obtain ⟨s0, s1⟩ := hs
  obtain ⟨lb, lo, cl', he, hlc⟩ := H.l.at (by have := H.rt.ll; omega)
  injection he with he1 he2 he3
  subst he1 he3
  have HLC := Lib.hid hlc
  have HLL := Lib.hid H.rt.ll
  have hlt : lb < W.heap.size := World.block_lt_of_cell? W _ (hlc 0 (by have := HLL.out; omega))
  have HSz := Lib.hid (sizeN_eq H.rt)
  have HLen := Lib.hid (freshW_len c c.ps.length)
  obtain ⟨N, hN⟩ : ∃ N, N = sizeN c := ⟨_, rfl⟩
  rw [← hN] at HLen HSz
  have hN400 := HSz.out.2
  have HNN := Lib.hid hN
  have HH := Lib.hid H
  have hmk := fun w => make_ints N (by omega) w
  have hRF := fun w L h => Lib.hid (Fresh_own (b := 0) (w := w) (L := L) H h)
  have hSQ := fun w => Lib.hid (Size_q (pp := pp) (np := c.ps.length) (cp := cp) (pl := some ⟨lb, lo, none⟩) (nl := c.ls.length) (cl := cl) c ⟨s0, s1⟩ hn1 (by omega) t1 w)
  rw [HSz.out.1] at hSQ
  clear he2 hlc hlb H hN
  go_enter Try.func5, Try.ntmps5
  go_wp2_with fail
  refine Hh.out.mono ?_
  rintro e w1 ⟨rfl, hS⟩
  obtain ⟨d0, d1, d2, d3, d4, d5, d6, d7⟩ := St.cells hS
  go_wp2_with fail
  refine (HG _ (Own.toBelow hS)).out.mono ?_
  rintro e w2 ⟨rfl, hB⟩
  have hS := St.below hS hB
  clear hB HG Hh d0 d1 d2 d3 d4 d5 d6 d7
  obtain ⟨d0, d1, d2, d3, d4, d5, d6, d7⟩ := St.cells hS
  go_wp2_with fail
  refine (hRF _ _ hS).out.mono ?_
  rintro e w3 ⟨m, rfl, hO⟩
  have HM := Lib.hid hO
  have HWd := Lib.hid (Words_any (by rw [HLen.out]; omega) hO)
  clear d0 d1 d2 d3 d4 d5 d6 d7 hO hS hRF
  go_wp2_with fail
  refine HWd.out.mono ?_
  rintro e w4 ⟨v, rfl, hO⟩
  rw [HLen.out] at hO
  obtain ⟨pv, cv, rfl⟩ := row_slice hO
  obtain ⟨d0, d1, d2, d3, d4, d5, d6, d7⟩ := conf_cells hO.p2
  clear HWd HM
  go_wp2_with (first | (go_at_call 21; refine (hSQ _).out.mono ?_; rintro e w' ⟨rfl, hB⟩; have hO := Own.below hO hB; obtain ⟨d0, d1, d2, d3, d4, d5, d6, d7⟩ := conf_cells hO.p2) | (go_at_call 29; refine (Len_any (ws := freshW c c.ps.length) hO.swap).mono ?_; rintro e w' ⟨rfl, rfl⟩; rw [HLen.out]) | (go_at_call 27; refine (Log_any (l := []) (by simp) hO.swap).mono ?_; rintro e w7 ⟨v1, rfl, hO⟩; obtain ⟨p1, cap1, rfl⟩ := row_slice hO; have hO := (hO.under fun _ _ h => h.drop).drop))
  have h0 := Own.new hO (.cells (zeroInts N) 3)
  rw [zeroInts_arr] at h0 ⊢
  obtain ⟨g, hg⟩ : ∃ g, g = w7.heap.size := ⟨_, rfl⟩
  rw [← hg] at h0 ⊢
  have e0 : List.replicate N 0 = freshW c 0 := by rw [HNN.out]; rfl
  rw [e0] at h0 ⊢
  have H0 := Lib.hid h0
  generalize World.alloc w7 _ = w8 at *
  clear h0 e0 hO hg d0 d1 d2 d3 d4 d5 d6 d7 hmk hSQ
  go_loopw [7] (fun i wr => ∃ k : Nat, k ≤ c.ps.length ∧ i = .int .i64 k ∧ Own W (fun _ => False) (blk g (.cells (intC (freshW c k)).toArray 3 (0, 0)) :: row (.slice pv N cv) 3 1 N (intC (freshW c c.ps.length)) :: [blk W.heap.size (cfO c (.slice pp c.ps.length cp) (.slice (some ⟨lb, lo, none⟩) c.ls.length cl))]) wr) (fun i _ => c.ps.length - (intOf i).toNat)
  case atStart => exact ⟨0, Nat.zero_le _, rfl, H0.out⟩
  case round =>
    obtain ⟨k, hk, rfl, hO⟩ := hrel
    obtain ⟨d0, d1, d2, d3, d4, d5, d6, d7⟩ := conf_cells hO.p2
    by_cases hlt2 : k < c.ps.length
    · have hltl : k < c.ls.length := by have := HLL.out; omega
      have hnx : limN c (k + 1) = limN c k + (6 + 2 * c.st.toNat) := by unfold limN; rw [Nat.succ_mul]
      have hup : limN c (k + 1) ≤ N := by rw [HNN.out]; unfold sizeN; have := limN_mono (c := c) (show k + 1 ≤ c.ps.length by omega); omega
      have heq := limN_eq (c := c) ⟨s0, s1⟩ k
      obtain ⟨p0, hp0⟩ : ∃ p0, p0 = limN c k := ⟨_, rfl⟩
      obtain ⟨p1, hp1⟩ : ∃ p1, p1 = limN c k + 1 := ⟨_, rfl⟩
      obtain ⟨p2, hp2⟩ : ∃ p2, p2 = limN c k + (5 + c.st.toNat) := ⟨_, rfl⟩
      obtain ⟨r, hr⟩ : ∃ r : Int, r = lim c k + 2 + c.st := ⟨_, rfl⟩
      have hw : IntKind.i64.wrap (r + 3) = (p2 : Int) := by rw [IntWalk.i64_in _ (by omega)]; omega
      have P0 : p0 < N := by omega
      have P1 : p1 < N := by omega
      have P2 : p2 < N := by omega
      obtain ⟨z, hz⟩ : ∃ z, z = c.ls.getD k 0 := ⟨_, rfl⟩
      have HZ := Lib.hid (show ∀ w', Stp W w' → w'.cell? ⟨lb, lo + k, none⟩ = some (.int .i64 z) from fun w' h => by rw [hz]; exact h.cell (HLC.out k hltl))
      have HLay := Lib.hid (show (((freshW c k).set p0 z).set p1 z).set p2 1 = freshW c (k + 1) by rw [hp0, hp1, hp2, hz]; rfl)
      have Q0 := fun w => Lib.hid (show Calls Try.prog 11 #[.agg #[.int .i64 c.th, .int .i64 c.st, .int .i64 c.ga, .int .i64 c.le, .int .i64 c.re, .int .i64 c.ti, .slice pp c.ps.length cp, .slice (some ⟨lb, lo, none⟩) c.ls.length cl], .int .i64 k] w (fun e w' => e = .returned (.int .i64 (p0 : Int)) ∧ Below w.heap.size w w') from by rw [hp0, ← heq]; exact Limit_q (pp := pp) (np := c.ps.length) (cp := cp) (pl := some ⟨lb, lo, none⟩) (nl := c.ls.length) (cl := cl) c ⟨s0, s1⟩ k (by omega) (by omega) w)
      have Q1 := fun w => Lib.hid (show Calls Try.prog 13 #[.agg #[.int .i64 c.th, .int .i64 c.st, .int .i64 c.ga, .int .i64 c.le, .int .i64 c.re, .int .i64 c.ti, .slice pp c.ps.length cp, .slice (some ⟨lb, lo, none⟩) c.ls.length cl], .int .i64 k] w (fun e w' => e = .returned (.int .i64 (p1 : Int)) ∧ Below w.heap.size w w') from by rw [show (p1 : Int) = lim c k + 1 by omega]; exact Avail_q (pp := pp) (np := c.ps.length) (cp := cp) (pl := some ⟨lb, lo, none⟩) (nl := c.ls.length) (cl := cl) c ⟨s0, s1⟩ k (by omega) (by omega) w)
      have Q2 := fun w => Lib.hid (show Calls Try.prog 17 #[.agg #[.int .i64 c.th, .int .i64 c.st, .int .i64 c.ga, .int .i64 c.le, .int .i64 c.re, .int .i64 c.ti, .slice pp c.ps.length cp, .slice (some ⟨lb, lo, none⟩) c.ls.length cl], .int .i64 k] w (fun e w' => e = .returned (.int .i64 r) ∧ Below w.heap.size w w') from by rw [hr]; exact Counter_q (pp := pp) (np := c.ps.length) (cp := cp) (pl := some ⟨lb, lo, none⟩) (nl := c.ls.length) (cl := cl) c ⟨s0, s1⟩ k (by omega) (by omega) w)
      have hOd := hO.drew
      clear hnx hup heq hp0 hp1 hp2 hr hz hO
      go_wp2_with fail
      go_region_held3 (fun w' => w'.cell? ⟨W.heap.size, 0, none⟩ = some (.int .i64 c.th) ∧ w'.cell? ⟨W.heap.size, 1, none⟩ = some (.int .i64 c.st) ∧ w'.cell? ⟨W.heap.size, 2, none⟩ = some (.int .i64 c.ga) ∧ w'.cell? ⟨W.heap.size, 3, none⟩ = some (.int .i64 c.le) ∧ w'.cell? ⟨W.heap.size, 4, none⟩ = some (.int .i64 c.re) ∧ w'.cell? ⟨W.heap.size, 5, none⟩ = some (.int .i64 c.ti) ∧ w'.cell? ⟨W.heap.size, 6, none⟩ = some (.slice pp c.ps.length cp) ∧ w'.cell? ⟨W.heap.size, 7, none⟩ = some (.slice (some ⟨lb, lo, none⟩) c.ls.length cl)) (go_keep) (first | (go_at_call 11; refine (Q0 _).out.mono ?_; rintro e w' ⟨rfl, hB⟩; have hO := Own.below (by with_reducible assumption) hB; obtain ⟨d0, d1, d2, d3, d4, d5, d6, d7⟩ := conf_cells hO.p2) | (go_at_call 13; refine (Q1 _).out.mono ?_; rintro e w' ⟨rfl, hB⟩; have hO := Own.below (by with_reducible assumption) hB; obtain ⟨d0, d1, d2, d3, d4, d5, d6, d7⟩ := conf_cells hO.p2) | (go_at_call 17; refine (Q2 _).out.mono ?_; rintro e w' ⟨rfl, hB⟩; have hO := Own.below (by with_reducible assumption) hB; obtain ⟨d0, d1, d2, d3, d4, d5, d6, d7⟩ := conf_cells hO.p2))
      all_goals
        clear hOd
        have HO := Lib.hid hO
        clear hO d0 d1 d2 d3 d4 d5 d6 d7
        have h1 := Own.new HO.out (.cells #[.int .i64 p0, .int .i64 p1, .int .i64 p2] 3)
        obtain ⟨B, hB⟩ : ∃ B, B = w'.heap.size := ⟨_, rfl⟩
        rw [← hB] at h1 ⊢
        clear hB HO
        generalize World.alloc w' _ = w9 at *
        have hG := h1.swap
        have n1 : g ≠ B := hG.ne
        have n2 : g ≠ W.heap.size := (hG.under fun _ _ h => h.p2).ne
        have n3 : g ≠ lb := by have := hG.fresh; omega
        have l0 := h1.cell (i := 0) rfl
        have l1 := h1.cell (i := 1) rfl
        have l2 := h1.cell (i := 2) rfl
        have HG := Lib.hid hG
        clear h1 hG
        go_wp2_with fail
        refine wp_loop_rounds 4 ?_
        rw [rounds_succ]
        go_wp2_with fail
        rw [rounds_succ]
        go_wp2_with fail
        rw [rounds_succ]
        go_wp2_with fail
        rw [rounds_succ]
        go_wp2_with fail
        have hG9 := HG.out
        clear l0 l1 l2 HG
        have l0 : w9.cell? ⟨B, 0, none⟩ = some (.int .i64 p0) := hG9.swap.cell (i := 0) rfl
        have l1 : w9.cell? ⟨B, 1, none⟩ = some (.int .i64 p1) := hG9.swap.cell (i := 1) rfl
        have l2 : w9.cell? ⟨B, 2, none⟩ = some (.int .i64 p2) := hG9.swap.cell (i := 2) rfl
        have d7 : w9.cell? ⟨W.heap.size, 7, none⟩ = some (.slice (some ⟨lb, lo, none⟩) c.ls.length cl) := hG9.p3.cell (i := 7) rfl
        have dz := HZ.out _ hG9.toBelow
        have gc : w9.cell? ⟨g, p0, none⟩ = some (.int .i64 ((freshW c k).getD p0 0)) := hG9.cell (by rw [List.getElem?_toArray]; exact intC_get _ _ (by simpa [freshW_len, ← HNN.out] using P0))
        have gf : w9.frozen? ⟨g, p0, none⟩ = false := hG9.unfrozen
        have HC := Lib.hid (show Own W (fun _ => False) (blk g (.cells (intC ((freshW c k).set p0 z)).toArray 3 (0, 0)) :: blk B (.cells #[.int .i64 p0, .int .i64 p1, .int .i64 p2] 3 (0, 0)) :: row (.slice pv N cv) 3 1 N (intC (freshW c c.ps.length)) :: [blk W.heap.size (cfO c (.slice pp c.ps.length cp) (.slice (some ⟨lb, lo, none⟩) c.ls.length cl))]) (World.drew (w9.setCell ⟨g, p0, none⟩ (.int .i64 z))) from by have h := hG9.set p0 (.int .i64 z); rw [intC_set] at h; exact h.drew)
        clear hG9
        go_region_held3 (fun w' => w'.cell? ⟨B, 0, none⟩ = some (.int .i64 p0) ∧ w'.cell? ⟨B, 1, none⟩ = some (.int .i64 p1) ∧ w'.cell? ⟨B, 2, none⟩ = some (.int .i64 p2) ∧ w'.cell? ⟨W.heap.size, 7, none⟩ = some (.slice (some ⟨lb, lo, none⟩) c.ls.length cl) ∧ w'.cell? ⟨lb, lo + k, none⟩ = some (.int .i64 z)) (go_keep) (fail)
        have hGA := HC.out
        clear HC l0 l1 l2 d7 dz gc gf
        generalize World.drew (World.setCell w9 _ _) = wA at *
        have l0 : wA.cell? ⟨B, 0, none⟩ = some (.int .i64 p0) := hGA.swap.cell (i := 0) rfl
        have l1 : wA.cell? ⟨B, 1, none⟩ = some (.int .i64 p1) := hGA.swap.cell (i := 1) rfl
        have l2 : wA.cell? ⟨B, 2, none⟩ = some (.int .i64 p2) := hGA.swap.cell (i := 2) rfl
        have d7 : wA.cell? ⟨W.heap.size, 7, none⟩ = some (.slice (some ⟨lb, lo, none⟩) c.ls.length cl) := hGA.p3.cell (i := 7) rfl
        have dz := HZ.out _ hGA.toBelow
        have gc : wA.cell? ⟨g, p1, none⟩ = some (.int .i64 (((freshW c k).set p0 z).getD p1 0)) := hGA.cell (by rw [List.getElem?_toArray]; exact intC_get _ _ (by simpa [freshW_len, ← HNN.out] using P1))
        have gf : wA.frozen? ⟨g, p1, none⟩ = false := hGA.unfrozen
        have HC := Lib.hid (show Own W (fun _ => False) (blk g (.cells (intC (((freshW c k).set p0 z).set p1 z)).toArray 3 (0, 0)) :: blk B (.cells #[.int .i64 p0, .int .i64 p1, .int .i64 p2] 3 (0, 0)) :: row (.slice pv N cv) 3 1 N (intC (freshW c c.ps.length)) :: [blk W.heap.size (cfO c (.slice pp c.ps.length cp) (.slice (some ⟨lb, lo, none⟩) c.ls.length cl))]) (World.drew (wA.setCell ⟨g, p1, none⟩ (.int .i64 z))) from by have h := hGA.set p1 (.int .i64 z); rw [intC_set] at h; exact h.drew)
        clear hGA
        go_wp2_with fail
        go_region_held3 (fun w' => w'.cell? ⟨B, 0, none⟩ = some (.int .i64 p0) ∧ w'.cell? ⟨B, 1, none⟩ = some (.int .i64 p1) ∧ w'.cell? ⟨B, 2, none⟩ = some (.int .i64 p2) ∧ w'.cell? ⟨W.heap.size, 7, none⟩ = some (.slice (some ⟨lb, lo, none⟩) c.ls.length cl) ∧ w'.cell? ⟨lb, lo + k, none⟩ = some (.int .i64 z)) (go_keep) (fail)
        have hGB := HC.out
        clear HC l0 l1 l2 d7 dz gc gf
        generalize World.drew (World.setCell wA _ _) = wB at *
        have gc : wB.cell? ⟨g, p2, none⟩ = some (.int .i64 ((((freshW c k).set p0 z).set p1 z).getD p2 0)) := hGB.cell (by rw [List.getElem?_toArray]; exact intC_get _ _ (by simpa [freshW_len, ← HNN.out] using P2))
        have gf : wB.frozen? ⟨g, p2, none⟩ = false := hGB.unfrozen
        have l2 : wB.cell? ⟨B, 2, none⟩ = some (.int .i64 p2) := hGB.swap.cell (i := 2) rfl
        have HC := Lib.hid (show Own W (fun _ => False) (blk g (.cells (intC (freshW c (k + 1))).toArray 3 (0, 0)) :: blk B (.cells #[.int .i64 p0, .int .i64 p1, .int .i64 p2] 3 (0, 0)) :: row (.slice pv N cv) 3 1 N (intC (freshW c c.ps.length)) :: [blk W.heap.size (cfO c (.slice pp c.ps.length cp) (.slice (some ⟨lb, lo, none⟩) c.ls.length cl))]) (wB.setCell ⟨g, p2, none⟩ (.int .i64 1)) from by have h := hGB.set p2 (.int .i64 1); rw [intC_set, HLay.out] at h; exact h)
        clear hGB
        go_wp2_with fail
        have HD := Lib.hid (HC.out.under fun _ _ h => h.drop)
        clear HC gc gf l2
        go_roundw
        case rel => exact ⟨k + 1, by omega, by go_num, HD.out⟩
        case measure => simp [intOf]; omega
    · have hkl : k = c.ps.length := by omega
      have hge : c.ps.length ≤ k := by omega
      rw [hkl] at hO
      have HO := Lib.hid hO
      have hI1 := want_row (by rw [HLen.out]; omega) hO
      have hI2 : IntsAt wr .i64 (.slice pv N cv) (freshW c c.ps.length) := by
        have h := hO.swap; rw [show row (.slice pv N cv) 3 1 N (intC (freshW c c.ps.length)) = row (.slice pv N cv) 3 1 (freshW c c.ps.length).length (intC (freshW c c.ps.length)) by rw [HLen.out]] at h; exact h.intsAt
      rw [HLen.out] at hI1
      have HSI := Lib.hid (SameInts_yes (zs := freshW c c.ps.length) hI2 hI1 (by rw [HLen.out]; omega))
      clear hkl hO hI1 hI2
      go_wp2_with fail
      refine HSI.out.mono ?_
      rintro e w12 ⟨rfl, hD⟩
      have HE := Lib.hid (show Stp W _ from (HO.out.below hD.below).toBelow)
      clear hD HSI
      go_wp2_with fail
      go_ret
      exact ⟨rfl, HE.out⟩
theorem PlanFresh_calls (W : World) (c : Cf) (vp vl : Value) (hw : Wide c) (hp : IntsAt W .i64 vp c.ps) (hl : IntsAt W .i64 vl c.ls)  :
    Calls Try.prog 5 #[cfV c vp vl] W fun e w' => e = .returned (.bool true) ∧ Below W.heap.size W w' := by
  by_cases hr : c.Rt
  · exact PlanFresh_main W c ⟨hw.wf (by have := hr.n1; omega) (by have := hr.n1; have := hr.ll; omega), hr, hp, hl⟩ 
  · exact PlanFresh_wrong W c hw hp hl hr 
end Go.Proofs.Ytnpjafiedbigaaa
