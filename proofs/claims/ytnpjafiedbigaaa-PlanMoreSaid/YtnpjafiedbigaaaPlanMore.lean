/- PlanMore. Written by tools/gen_law5.py. -/
import Derived.Test.YtnpjafiedbigaaaPlanHead
import Derived.Test.YtnpjafiedbigaaaRowMore
namespace Go.Proofs.Ytnpjafiedbigaaa
open Go.ChangeShapes Go.WideShapes Go.ChangeAt Go.RowKit Go.Shelf
set_option linter.unusedVariables false
theorem PlanMore_wrong (W : World) (c : Cf) (hw : Wide c) {vp vl : Value} (hp : IntsAt W .i64 vp c.ps) (hl : IntsAt W .i64 vl c.ls) (h : ¬ c.Rt) (x : Int) (x0 : 0 ≤ x) (x1 : x ≤ 255) (y : Int) (y0 : 0 ≤ y) (y1 : y ≤ 255) :
    Calls Try.prog 7 #[cfV c vp vl, .int .u8 x, .int .u8 y] W fun e w' => e = .returned (.bool true) ∧ Below W.heap.size W w' := by
  obtain ⟨pp, cp, rfl⟩ := hp.slice
  obtain ⟨pl, cl, rfl⟩ := hl.slice
  have Hh := Lib.hid (head5_any (St.start W c (.slice pp c.ps.length cp) (.slice pl c.ls.length cl)))
  have HG := fun w' (hb : Stp W w') => Lib.hid (Good_no c hw h (hp.stp hb) (hl.stp hb))
  clear h hp hl hw
  go_enter Try.func7, Try.ntmps7
  go_wp2_with fail
  refine Hh.out.mono ?_
  rintro e w1 ⟨rfl, hS⟩
  obtain ⟨d0, d1, d2, d3, d4, d5, d6, d7⟩ := St.cells hS
  go_wp2_with fail
  refine (HG _ (Own.toBelow hS)).out.mono ?_
  rintro e w2 ⟨rfl, hB⟩
  have hS := St.below hS hB
  clear hB HG Hh d0 d1 d2 d3 d4 d5 d6 d7
  obtain ⟨d0, d1, d2, d3, d4, d5, d6, d7⟩ := St.cells hS
  have HO := Lib.hid hS.toBelow
  clear hS
  go_wp2_with fail
  go_ret
  exact ⟨rfl, HO.out⟩
set_option maxRecDepth 100000 in
set_option maxHeartbeats 4000000 in
theorem PlanMore_main (W : World) (c : Cf) {vp vl : Value} (H : Has W c vp vl) (x : Int) (x0 : 0 ≤ x) (x1 : x ≤ 255) (y : Int) (y0 : 0 ≤ y) (y1 : y ≤ 255) :
    Calls Try.prog 7 #[cfV c vp vl, .int .u8 x, .int .u8 y] W fun e w' => e = .returned (.bool true) ∧ Below W.heap.size W w' := by
  obtain ⟨pp, cp, rfl⟩ := H.p.slice
  obtain ⟨pl, cl, rfl⟩ := H.l.slice
  have Hh := Lib.hid (head5_any (St.start W c (.slice pp c.ps.length cp) (.slice pl c.ls.length cl)))
  have HG := fun w' (hb : Stp W w') => Lib.hid (Good_yes c H.wf H.rt (H.p.stp hb) (H.l.stp hb))
  have hn0 := H.rt.n0
  have hn1 := H.rt.n1
  have hs := H.rt.sm
  have ht := H.rt.ti
  unfold Bd at ht
  obtain ⟨t0, t1⟩ := ht
  have hlb := fun (x : Int) (h0 : 0 ≤ x) (h1 : x ≤ 13) => lim_bd hs h0 h1
  obtain ⟨s0, s1⟩ := hs
  obtain ⟨v, hv⟩ : ∃ v : Int, x % (c.ps.length : Int) = v := ⟨_, rfl⟩
  have v0 : 0 ≤ v := by rw [← hv]; exact Int.emod_nonneg _ (by omega)
  have v1 : v < (c.ps.length : Int) := by rw [← hv]; exact Int.emod_lt_of_pos _ (by omega)
  obtain ⟨s, has⟩ : ∃ s : Int, y % c.st = s := ⟨_, rfl⟩
  have a0 : 0 ≤ s := by rw [← has]; exact Int.emod_nonneg _ (by omega)
  have a1 : s < c.st := by rw [← has]; exact Int.emod_lt_of_pos _ (by omega)
  have e7 : lim c c.ps.length + 2 * c.ti + 2 = lim c c.ps.length + 2 * (c.ti + 1) := by omega
  have b1 := hlb v (by omega) (by omega)
  have b2 := hlb c.ps.length (by omega) (by omega)
  have H5 := Lib.hid (lim_next c c.ps.length)
  obtain ⟨pb, po, cp', he, hpc⟩ := H.p.at (by omega)
  injection he with he1 he2 he3
  subst he1 he3
  obtain ⟨lb, lo, cl', he, hlc⟩ := H.l.at (by have := H.rt.ll; omega)
  injection he with he1 he2 he3
  subst he1 he3
  have HPC := Lib.hid hpc
  have HLC := Lib.hid hlc
  have HLL := Lib.hid H.rt.ll
  clear hpc hlc he2 hlb
  have HH := Lib.hid H
  clear H
  obtain ⟨i0, hi0, hz0, hz1, hz2⟩ := info_parts Try.info_int
  have g1 : 0 + c.ps.length ≤ maxLen := by unfold maxLen; omega
  have g2 : (0 + c.ps.length) * 8 ≤ 140737488355328 := by omega
  have g3 : c.ps.length + 1 ≤ maxLen := by unfold maxLen; omega
  have g4 : (c.ps.length + 1) * 8 ≤ 140737488355328 := by omega
  have g5 : 0 + c.ls.length ≤ maxLen := by have := HLL.out; unfold maxLen; omega
  have g6 : (0 + c.ls.length) * 8 ≤ 140737488355328 := by have := HLL.out; omega
  have g7 : c.ls.length + 1 ≤ maxLen := by have := HLL.out; unfold maxLen; omega
  have g8 : (c.ls.length + 1) * 8 ≤ 140737488355328 := by have := HLL.out; omega
  have G := Lib.hid (And.intro g1 (And.intro g2 (And.intro g3 (And.intro g4 (And.intro g5 (And.intro g6 (And.intro g7 g8)))))))
  clear g1 g2 g3 g4 g5 g6 g7 g8
  have Z1 := Lib.hid (show (intC c.ps).length = c.ps.length * 1 by rw [intC_len]; omega)
  have Z3 := Lib.hid (show (intC c.ls).length = c.ls.length * 1 by rw [intC_len]; omega)
  have O1 := Lib.hid (intC_one c.ps)
  have O3 := Lib.hid (intC_one c.ls)
  go_enter Try.func7, Try.ntmps7
  go_wp2_with fail
  refine Hh.out.mono ?_
  rintro e w1 ⟨rfl, hS⟩
  obtain ⟨d0, d1, d2, d3, d4, d5, d6, d7⟩ := St.cells hS
  go_wp2_with fail
  refine (HG _ (Own.toBelow hS)).out.mono ?_
  rintro e w2 ⟨rfl, hB⟩
  have hS := St.below hS hB
  clear hB HG Hh d0 d1 d2 d3 d4 d5 d6 d7
  obtain ⟨d0, d1, d2, d3, d4, d5, d6, d7⟩ := St.cells hS
  by_cases hnp : c.ps.length = 12
  · have r1 : ((c.ps.length : Int) == 12) = true := by simp; omega
    have HO := Lib.hid (show Stp W _ from Own.toBelow hS)
    clear hS
    go_wp2_with fail
    go_ret
    exact ⟨rfl, HO.out⟩
  have r1 : ((c.ps.length : Int) == 12) = false := by simp; omega
  by_cases hti : c.ti = 16
  · have r2 : (c.ti == 16) = true := by simp; omega
    have HO := Lib.hid (show Stp W _ from Own.toBelow hS)
    clear hS
    go_wp2_with fail
    go_ret
    exact ⟨rfl, HO.out⟩
  have r2 : (c.ti == 16) = false := by simp; omega
  have h1 := ((Own.new hS (cfO c (.slice (some ⟨pb, po, none⟩) c.ps.length cp) (.slice (some ⟨lb, lo, none⟩) c.ls.length cl))).new (.cells #[] 3)).blkRow (n := 0) (cap := 0) (size := 1) (xs := []) (Nat.le_refl _) (by decide) rfl rfl rfl
  rw [size_alloc] at h1
  have H1 := Lib.hid h1
  have N1 := Lib.hid (news_of HPC.out h1.toBelow)
  have k6 : ∀ o o', ((w2.alloc o).alloc o').cell? ⟨W.heap.size, 6, none⟩ = some (.slice (some ⟨pb, po, none⟩) c.ps.length cp) := fun o o' => (Own.cell (i := 6) (Own.alloc (Own.alloc hS o) o') rfl)
  clear h1
  go_wp2_with (first | (at_builtin; refine wpList_append_row rfl (.tmp 40) (.tmp 42) 22 rfl 3 i0 _ Try.underlying22 hi0 hz0 hz1 hz2 rfl (by decide) rfl H1.out ⟨pb, po, none⟩ c.ps.length cp (intC c.ps) rfl Z1.out N1.out O1.out G.out.1 G.out.2.1 ?_; intro v1 wA hO hg hn; rw [Nat.zero_add] at hO; obtain ⟨q1, cap1, rfl⟩ := row_slice hO; have HA := Lib.hid (hO.alloc (.cells #[.int .i64 0] 3)); clear hO hg hn) | (at_builtin; refine wpList_append_row rfl (.tmp 43) (.tmp 44) 22 rfl 3 i0 _ Try.underlying22 hi0 hz0 hz1 hz2 rfl (by decide) rfl HA.out ⟨wA.heap.size, 0, none⟩ 1 1 [.int .i64 0] rfl rfl (news_at wA [.int .i64 0] _ _ rfl) (by simp [Value.oneCell']) G.out.2.2.1 G.out.2.2.2.1 ?_; intro v2 wB hO hg hn; obtain ⟨q2, cap2, rfl⟩ := row_slice hO; have c6 : wB.cell? ⟨w2.heap.size, 6, none⟩ = some (.slice (some ⟨pb, po, none⟩) c.ps.length cp) := hO.swap.cell (i := 6) rfl; have c6f : wB.frozen? ⟨w2.heap.size, 6, none⟩ = false := hO.swap.unfrozen; have hO2 := hO.swap.set 6 (.slice q2 (c.ps.length + 1) cap2); have g7 : ∀ o, ((wB.setCell ⟨w2.heap.size, 6, none⟩ (.slice q2 (c.ps.length + 1) cap2)).alloc o).cell? ⟨W.heap.size, 7, none⟩ = some (.slice (some ⟨lb, lo, none⟩) c.ls.length cl) := fun o => (hO2.p2.alloc o).cell (i := 7) rfl; have h3 := (hO2.new (.cells #[] 3)).blkRow (n := 0) (cap := 0) (size := 1) (xs := []) (Nat.le_refl _) (by decide) rfl rfl rfl; rw [size_setCell] at h3; have H3 := Lib.hid h3; have N3 := Lib.hid (news_of HLC.out h3.toBelow); clear h3 hO2 hO hg hn) | (at_builtin; refine wpList_append_row rfl (.tmp 47) (.tmp 49) 22 rfl 3 i0 _ Try.underlying22 hi0 hz0 hz1 hz2 rfl (by decide) rfl H3.out ⟨lb, lo, none⟩ c.ls.length cl (intC c.ls) rfl Z3.out N3.out O3.out G.out.2.2.2.2.1 G.out.2.2.2.2.2.1 ?_; intro v3 wC hO hg hn; rw [Nat.zero_add] at hO; obtain ⟨q3, cap3, rfl⟩ := row_slice hO; have HC := Lib.hid (hO.alloc (.cells #[.int .i64 0] 3)); clear hO hg hn) | (at_builtin; refine wpList_append_row rfl (.tmp 50) (.tmp 51) 22 rfl 3 i0 _ Try.underlying22 hi0 hz0 hz1 hz2 rfl (by decide) rfl HC.out ⟨wC.heap.size, 0, none⟩ 1 1 [.int .i64 0] rfl rfl (news_at wC [.int .i64 0] _ _ rfl) (by simp [Value.oneCell']) G.out.2.2.2.2.2.2.1 G.out.2.2.2.2.2.2.2 ?_; intro v4 wD hO hg hn; obtain ⟨q4, cap4, rfl⟩ := row_slice hO; have c7 : wD.cell? ⟨w2.heap.size, 7, none⟩ = some (.slice (some ⟨lb, lo, none⟩) c.ls.length cl) := hO.swap.cell (i := 7) rfl; have c7f : wD.frozen? ⟨w2.heap.size, 7, none⟩ = false := hO.swap.unfrozen; have hE := hO.swap.set 7 (.slice q4 (c.ls.length + 1) cap4); have hB := hE.p3; have m0 := hB.cell (i := 0) rfl; have m1 := hB.cell (i := 1) rfl; have m2 := hB.cell (i := 2) rfl; have m3 := hB.cell (i := 3) rfl; have m4 := hB.cell (i := 4) rfl; have m5 := hB.cell (i := 5) rfl; have m6 := hB.cell (i := 6) rfl; have m7 := hB.cell (i := 7) rfl; have n5 : ∀ o, World.cell? ((World.setCell wD ⟨w2.heap.size, 7, none⟩ (.slice q4 (c.ls.length + 1) cap4)).alloc o) ⟨W.heap.size, 5, none⟩ = some (.int .i64 c.ti) := fun o => (hB.alloc o).cell (i := 5) rfl; have HE := Lib.hid hE; clear hE hB hO hg hn))
  have HF := Lib.hid (Own.new HE.out (.cells #[.int .i64 c.th, .int .i64 c.st, .int .i64 c.ga, .int .i64 c.le, .int .i64 c.re, .int .i64 (c.ti + 1), .slice (some ⟨pb, po, none⟩) c.ps.length cp, .slice (some ⟨lb, lo, none⟩) c.ls.length cl] 24))
  obtain ⟨E, hE⟩ : ∃ E, E = wD.heap.size := ⟨_, rfl⟩
  rw [size_setCell] at HF
  rw [← hE] at HF ⊢
  have HO := Lib.hid (show Stp W _ from HF.out.toBelow)
  have ke0 := cell_regrown (Own.cell (i := 0) HF.out rfl)
  have ke1 := cell_regrown (Own.cell (i := 1) HF.out rfl)
  have ke2 := cell_regrown (Own.cell (i := 2) HF.out rfl)
  have ke3 := cell_regrown (Own.cell (i := 3) HF.out rfl)
  have ke4 := cell_regrown (Own.cell (i := 4) HF.out rfl)
  have ke5 := cell_regrown (Own.cell (i := 5) HF.out rfl)
  have ke6 := cell_regrown (Own.cell (i := 6) HF.out rfl)
  have ke7 := cell_regrown (Own.cell (i := 7) HF.out rfl)
  have kd0 := cell_regrown (Own.cell (i := 0) HF.out.swap rfl)
  have kd1 := cell_regrown (Own.cell (i := 1) HF.out.swap rfl)
  have kd2 := cell_regrown (Own.cell (i := 2) HF.out.swap rfl)
  have kd3 := cell_regrown (Own.cell (i := 3) HF.out.swap rfl)
  have kd4 := cell_regrown (Own.cell (i := 4) HF.out.swap rfl)
  have kd5 := cell_regrown (Own.cell (i := 5) HF.out.swap rfl)
  have kd6 := cell_regrown (Own.cell (i := 6) HF.out.swap rfl)
  have kd7 := cell_regrown (Own.cell (i := 7) HF.out.swap rfl)
  have kc0 := cell_regrown (Own.cell (i := 0) HF.out.p4 rfl)
  have kc1 := cell_regrown (Own.cell (i := 1) HF.out.p4 rfl)
  have kc2 := cell_regrown (Own.cell (i := 2) HF.out.p4 rfl)
  have kc3 := cell_regrown (Own.cell (i := 3) HF.out.p4 rfl)
  have kc4 := cell_regrown (Own.cell (i := 4) HF.out.p4 rfl)
  have kc5 := cell_regrown (Own.cell (i := 5) HF.out.p4 rfl)
  have kc6 := cell_regrown (Own.cell (i := 6) HF.out.p4 rfl)
  have kc7 := cell_regrown (Own.cell (i := 7) HF.out.p4 rfl)
  clear m0 m1 m2 m3 m4 m5 m6 m7 n5 HE c7 c7f H1 N1 k6 HA c6 c6f g7 H3 N3 HC d0 d1 d2 d3 d4 d5 d6 d7 hS Z1 Z3 O1 O3 hE HF
  generalize World.alloc (World.setCell wD ⟨w2.heap.size, 7, none⟩ (.slice q4 (c.ls.length + 1) cap4)) (.cells #[.int .i64 c.th, .int .i64 c.st, .int .i64 c.ga, .int .i64 c.le, .int .i64 c.re, .int .i64 (c.ti + 1), .slice (some ⟨pb, po, none⟩) c.ps.length cp, .slice (some ⟨lb, lo, none⟩) c.ls.length cl] 24) = w4 at *
  generalize w2.heap.size = D at *
  have H5' := H5.out
  have LC := fun d os => Calls.regrown_of (show Calls Try.prog 11 #[.agg #[.int .i64 c.th, .int .i64 c.st, .int .i64 c.ga, .int .i64 c.le, .int .i64 c.re, .int .i64 c.ti, .slice (some ⟨pb, po, none⟩) c.ps.length cp, .slice (some ⟨lb, lo, none⟩) c.ls.length cl], .int .i64 v] (Go.Sort.grow (redrawn w4 d) os) (fun e w' => e = .returned (.int .i64 (lim c v)) ∧ Below (Go.Sort.grow (redrawn w4 d) os).heap.size (Go.Sort.grow (redrawn w4 d) os) w') from Limit_q (pp := some ⟨pb, po, none⟩) (np := c.ps.length) (cp := cp) (pl := some ⟨lb, lo, none⟩) (nl := c.ls.length) (cl := cl) c ⟨s0, s1⟩ v v0 (by omega) _)
  have LD := fun d os => Calls.regrown_of (show Calls Try.prog 11 #[.agg #[.int .i64 c.th, .int .i64 c.st, .int .i64 c.ga, .int .i64 c.le, .int .i64 c.re, .int .i64 c.ti, .slice q2 (c.ps.length + 1) cap2, .slice q4 (c.ls.length + 1) cap4], .int .i64 v] (Go.Sort.grow (redrawn w4 d) os) (fun e w' => e = .returned (.int .i64 (lim c v)) ∧ Below (Go.Sort.grow (redrawn w4 d) os).heap.size (Go.Sort.grow (redrawn w4 d) os) w') from Limit_q (pp := q2) (np := c.ps.length + 1) (cp := cap2) (pl := q4) (nl := c.ls.length + 1) (cl := cap4) c ⟨s0, s1⟩ v v0 (by omega) _)
  have LE := fun d os => Calls.regrown_of (show Calls Try.prog 11 #[.agg #[.int .i64 c.th, .int .i64 c.st, .int .i64 c.ga, .int .i64 c.le, .int .i64 c.re, .int .i64 (c.ti + 1), .slice (some ⟨pb, po, none⟩) c.ps.length cp, .slice (some ⟨lb, lo, none⟩) c.ls.length cl], .int .i64 v] (Go.Sort.grow (redrawn w4 d) os) (fun e w' => e = .returned (.int .i64 (lim c v)) ∧ Below (Go.Sort.grow (redrawn w4 d) os).heap.size (Go.Sort.grow (redrawn w4 d) os) w') from Limit_q (pp := some ⟨pb, po, none⟩) (np := c.ps.length) (cp := cp) (pl := some ⟨lb, lo, none⟩) (nl := c.ls.length) (cl := cl) ⟨c.th, c.st, c.ga, c.le, c.re, c.ti + 1, c.ps, c.ls⟩ ⟨s0, s1⟩ v v0 (by omega) _)
  have SC := fun d os => Calls.regrown_of (show Calls Try.prog 15 #[.agg #[.int .i64 c.th, .int .i64 c.st, .int .i64 c.ga, .int .i64 c.le, .int .i64 c.re, .int .i64 c.ti, .slice (some ⟨pb, po, none⟩) c.ps.length cp, .slice (some ⟨lb, lo, none⟩) c.ls.length cl], .int .i64 v, .int .i64 s] (Go.Sort.grow (redrawn w4 d) os) (fun e w' => e = .returned (.int .i64 (lim c v + 2 + s)) ∧ Below (Go.Sort.grow (redrawn w4 d) os).heap.size (Go.Sort.grow (redrawn w4 d) os) w') from Lease_q (pp := some ⟨pb, po, none⟩) (np := c.ps.length) (cp := cp) (pl := some ⟨lb, lo, none⟩) (nl := c.ls.length) (cl := cl) c ⟨s0, s1⟩ v v0 (by omega) s a0 (by omega) _)
  have SD := fun d os => Calls.regrown_of (show Calls Try.prog 15 #[.agg #[.int .i64 c.th, .int .i64 c.st, .int .i64 c.ga, .int .i64 c.le, .int .i64 c.re, .int .i64 c.ti, .slice q2 (c.ps.length + 1) cap2, .slice q4 (c.ls.length + 1) cap4], .int .i64 v, .int .i64 s] (Go.Sort.grow (redrawn w4 d) os) (fun e w' => e = .returned (.int .i64 (lim c v + 2 + s)) ∧ Below (Go.Sort.grow (redrawn w4 d) os).heap.size (Go.Sort.grow (redrawn w4 d) os) w') from Lease_q (pp := q2) (np := c.ps.length + 1) (cp := cap2) (pl := q4) (nl := c.ls.length + 1) (cl := cap4) c ⟨s0, s1⟩ v v0 (by omega) s a0 (by omega) _)
  have CC := fun d os => Calls.regrown_of (show Calls Try.prog 17 #[.agg #[.int .i64 c.th, .int .i64 c.st, .int .i64 c.ga, .int .i64 c.le, .int .i64 c.re, .int .i64 c.ti, .slice (some ⟨pb, po, none⟩) c.ps.length cp, .slice (some ⟨lb, lo, none⟩) c.ls.length cl], .int .i64 v] (Go.Sort.grow (redrawn w4 d) os) (fun e w' => e = .returned (.int .i64 (lim c v + 2 + c.st)) ∧ Below (Go.Sort.grow (redrawn w4 d) os).heap.size (Go.Sort.grow (redrawn w4 d) os) w') from Counter_q (pp := some ⟨pb, po, none⟩) (np := c.ps.length) (cp := cp) (pl := some ⟨lb, lo, none⟩) (nl := c.ls.length) (cl := cl) c ⟨s0, s1⟩ v v0 (by omega) _)
  have CD := fun d os => Calls.regrown_of (show Calls Try.prog 17 #[.agg #[.int .i64 c.th, .int .i64 c.st, .int .i64 c.ga, .int .i64 c.le, .int .i64 c.re, .int .i64 c.ti, .slice q2 (c.ps.length + 1) cap2, .slice q4 (c.ls.length + 1) cap4], .int .i64 v] (Go.Sort.grow (redrawn w4 d) os) (fun e w' => e = .returned (.int .i64 (lim c v + 2 + c.st)) ∧ Below (Go.Sort.grow (redrawn w4 d) os).heap.size (Go.Sort.grow (redrawn w4 d) os) w') from Counter_q (pp := q2) (np := c.ps.length + 1) (cp := cap2) (pl := q4) (nl := c.ls.length + 1) (cl := cap4) c ⟨s0, s1⟩ v v0 (by omega) _)
  have TC := fun d os => Calls.regrown_of (show Calls Try.prog 19 #[.agg #[.int .i64 c.th, .int .i64 c.st, .int .i64 c.ga, .int .i64 c.le, .int .i64 c.re, .int .i64 c.ti, .slice (some ⟨pb, po, none⟩) c.ps.length cp, .slice (some ⟨lb, lo, none⟩) c.ls.length cl], .int .i64 0] (Go.Sort.grow (redrawn w4 d) os) (fun e w' => e = .returned (.int .i64 (lim c c.ps.length)) ∧ Below (Go.Sort.grow (redrawn w4 d) os).heap.size (Go.Sort.grow (redrawn w4 d) os) w') from by have h := Ticket_q (pp := some ⟨pb, po, none⟩) (np := c.ps.length) (cp := cp) (pl := some ⟨lb, lo, none⟩) (nl := c.ls.length) (cl := cl) c ⟨s0, s1⟩ (by omega) 0 (by omega) (by omega) (Go.Sort.grow (redrawn w4 d) os); rw [show lim c c.ps.length + 2 * 0 = lim c c.ps.length from by omega] at h; exact h)
  have TD := fun d os => Calls.regrown_of (show Calls Try.prog 19 #[.agg #[.int .i64 c.th, .int .i64 c.st, .int .i64 c.ga, .int .i64 c.le, .int .i64 c.re, .int .i64 c.ti, .slice q2 (c.ps.length + 1) cap2, .slice q4 (c.ls.length + 1) cap4], .int .i64 0] (Go.Sort.grow (redrawn w4 d) os) (fun e w' => e = .returned (.int .i64 (lim c c.ps.length + 6 + 2 * c.st)) ∧ Below (Go.Sort.grow (redrawn w4 d) os).heap.size (Go.Sort.grow (redrawn w4 d) os) w') from by have h := Ticket_q (pp := q2) (np := c.ps.length + 1) (cp := cap2) (pl := q4) (nl := c.ls.length + 1) (cl := cap4) c ⟨s0, s1⟩ (by omega) 0 (by omega) (by omega) (Go.Sort.grow (redrawn w4 d) os); rw [show lim c ((c.ps.length + 1 : Nat) : Int) + 2 * 0 = lim c c.ps.length + 6 + 2 * c.st from by rw [show ((c.ps.length + 1 : Nat) : Int) = (c.ps.length : Int) + 1 by omega, H5']; unfold each; omega] at h; exact h)
  have TE := fun d os => Calls.regrown_of (show Calls Try.prog 19 #[.agg #[.int .i64 c.th, .int .i64 c.st, .int .i64 c.ga, .int .i64 c.le, .int .i64 c.re, .int .i64 (c.ti + 1), .slice (some ⟨pb, po, none⟩) c.ps.length cp, .slice (some ⟨lb, lo, none⟩) c.ls.length cl], .int .i64 0] (Go.Sort.grow (redrawn w4 d) os) (fun e w' => e = .returned (.int .i64 (lim c c.ps.length)) ∧ Below (Go.Sort.grow (redrawn w4 d) os).heap.size (Go.Sort.grow (redrawn w4 d) os) w') from by have h := Ticket_q (pp := some ⟨pb, po, none⟩) (np := c.ps.length) (cp := cp) (pl := some ⟨lb, lo, none⟩) (nl := c.ls.length) (cl := cl) ⟨c.th, c.st, c.ga, c.le, c.re, c.ti + 1, c.ps, c.ls⟩ ⟨s0, s1⟩ (by omega) 0 (by omega) (by omega) (Go.Sort.grow (redrawn w4 d) os); rw [show lim (⟨c.th, c.st, c.ga, c.le, c.re, c.ti + 1, c.ps, c.ls⟩ : Cf) c.ps.length + 2 * 0 = lim c c.ps.length from Int.add_zero _] at h; exact h)
  have ZC := fun d os => Calls.regrown_of (show Calls Try.prog 21 #[.agg #[.int .i64 c.th, .int .i64 c.st, .int .i64 c.ga, .int .i64 c.le, .int .i64 c.re, .int .i64 c.ti, .slice (some ⟨pb, po, none⟩) c.ps.length cp, .slice (some ⟨lb, lo, none⟩) c.ls.length cl]] (Go.Sort.grow (redrawn w4 d) os) (fun e w' => e = .returned (.int .i64 (lim c c.ps.length + 2 * c.ti)) ∧ Below (Go.Sort.grow (redrawn w4 d) os).heap.size (Go.Sort.grow (redrawn w4 d) os) w') from Size_q (pp := some ⟨pb, po, none⟩) (np := c.ps.length) (cp := cp) (pl := some ⟨lb, lo, none⟩) (nl := c.ls.length) (cl := cl) c ⟨s0, s1⟩ (by omega) (by omega) t1 _)
  have ZE := fun d os => Calls.regrown_of (show Calls Try.prog 21 #[.agg #[.int .i64 c.th, .int .i64 c.st, .int .i64 c.ga, .int .i64 c.le, .int .i64 c.re, .int .i64 (c.ti + 1), .slice (some ⟨pb, po, none⟩) c.ps.length cp, .slice (some ⟨lb, lo, none⟩) c.ls.length cl]] (Go.Sort.grow (redrawn w4 d) os) (fun e w' => e = .returned (.int .i64 (lim c c.ps.length + 2 * (c.ti + 1))) ∧ Below (Go.Sort.grow (redrawn w4 d) os).heap.size (Go.Sort.grow (redrawn w4 d) os) w') from Size_q (pp := some ⟨pb, po, none⟩) (np := c.ps.length) (cp := cp) (pl := some ⟨lb, lo, none⟩) (nl := c.ls.length) (cl := cl) ⟨c.th, c.st, c.ga, c.le, c.re, c.ti + 1, c.ps, c.ls⟩ ⟨s0, s1⟩ (by omega) (show 0 ≤ c.ti + 1 by omega) (show c.ti + 1 ≤ 16 by omega) _)
  clear H5' H5
  dsimp only [List.append]
  refine wp_region_quiet_below (by kernel_rfl) (by kernel_rfl) ?_
  repeat (go_big_quiet_step ((first | (go_at_call 11; first | (with_reducible exact LC _ _) | (with_reducible exact LD _ _) | (with_reducible exact LE _ _)) | (go_at_call 15; first | (with_reducible exact SC _ _) | (with_reducible exact SD _ _)) | (go_at_call 17; first | (with_reducible exact CC _ _) | (with_reducible exact CD _ _)) | (go_at_call 19; first | (with_reducible exact TC _ _) | (with_reducible exact TD _ _) | (with_reducible exact TE _ _)) | (go_at_call 21; first | (with_reducible exact ZC _ _) | (with_reducible exact ZE _ _)))))
  refine wpQuiet_nil ?_
  intro _ hw'
  obtain ⟨⟨dq, osq⟩, hw''⟩ := hw'
  subst hw''
  clear ke0 ke1 ke2 ke3 ke4 ke5 ke6 ke7 kd0 kd1 kd2 kd3 kd4 kd5 kd6 kd7 kc0 kc1 kc2 kc3 kc4 kc5 kc6 kc7
  go_wp2_with fail
  go_ret
  exact ⟨rfl, HO.out.trans (below_regrown _ dq osq)⟩
theorem PlanMore_calls (W : World) (c : Cf) (vp vl : Value) (hw : Wide c) (hp : IntsAt W .i64 vp c.ps) (hl : IntsAt W .i64 vl c.ls) (x : Int) (x0 : 0 ≤ x) (x1 : x ≤ 255) (y : Int) (y0 : 0 ≤ y) (y1 : y ≤ 255) :
    Calls Try.prog 7 #[cfV c vp vl, .int .u8 x, .int .u8 y] W fun e w' => e = .returned (.bool true) ∧ Below W.heap.size W w' := by
  by_cases hr : c.Rt
  · exact PlanMore_main W c ⟨hw.wf (by have := hr.n1; omega) (by have := hr.n1; have := hr.ll; omega), hr, hp, hl⟩ x x0 x1 y y0 y1
  · exact PlanMore_wrong W c hw hp hl hr x x0 x1 y y0 y1
end Go.Proofs.Ytnpjafiedbigaaa
