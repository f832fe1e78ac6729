/- ReleaseSteps. Written by tools/gen_rel*.py. -/
import Derived.Test.YtjfjjmlocgmicaaGreatB2
import Derived.Test.YtjfjjmlocgmicaaGreatB4
import Derived.Test.YtjfjjmlocgmicaaGreatB5
import Derived.Test.YtjfjjmlocgmicaaGreatB8
import Derived.Test.YtjfjjmlocgmicaaGreatB26
import Derived.Test.YtjfjjmlocgmicaaGreatB37
import Derived.Test.YtjfjjmlocgmicaaGreatB38
import Derived.Lib.QuietBelow
import Derived.Deep.RegionWith
import Derived.StillTailTactics
namespace Go.Proofs.YtjfjjmlocgmicaaGreat
open Go.ChangeShapes Go.WideShapes Go.ChangeAt Go.RowKit Go.Shelf
set_option linter.unusedVariables false
set_option linter.unusedSimpArgs false
set_option maxRecDepth 100000
theorem ans13Z (w : World) : (binOp .neq 54 (.agg #[.int .i64 0, .int .i64 0, .bool false, .int .i64 0]) (.agg #[.int .i64 0, .int .i64 0, .bool false, .int .i64 0])).run Tryz.prog w = .ok (.bool false) w := by kernel_rfl
theorem relStep_same {W w : World} {L : List Asn} {g : Nat} {vp vl : Value} {p : RP} {s : RS} (r : Value) (h6 : s.ph = 6) (h : Own W NoF (relA vp vl g p s :: L) w) :
    Calls Tryz.prog 34 #[.pointer (some ⟨g, 0, none⟩), r] w fun e w' => e = .returned (.bool true) ∧ w = w' := by
  obtain ⟨⟨l, lf, wa, nd0, n0, K, xs, on⟩, h⟩ := h.exE
  obtain ⟨⟨hx, hi⟩, h1⟩ := h.part.purE
  have h2 := h1.part
  unfold relI at hi
  rw [h6] at hi
  obtain ⟨hK, hon⟩ := hi
  simp only at hK hon h2
  subst hK
  obtain ⟨pf, cf, rfl⟩ := row_slice (show Own W NoF (row lf 119 1 0 xs :: _) w from h2.swap.part)
  exact rlStep_end r h2
theorem ReleaseSteps_bad (W : World) (x : Ak) {vp vl vb va vk : Value} (H : AkAt W x vp vl vb va vk) (hg : ¬ GoodA x) (vq : Value) (q : List Int) (ql : q.length ≤ maxLen) (qw : ∀ n ∈ q, (Lit.int .u16 n).wf = true) (qv : IntsAt W .u16 vq q) (pick : Int) (pick0 : IntKind.u8.min ≤ pick) (pick1 : pick ≤ IntKind.u8.max) (raw : Int) (raw0 : IntKind.u16.min ≤ raw) (raw1 : raw ≤ IntKind.u16.max) :
    Calls Tryz.prog 7 #[akV x vp vl vb va vk, vq, .int .u8 pick, .int .u16 raw] W fun e w' => e = .returned (.bool true) ∧ Below W.heap.size W w' := by
  obtain ⟨pp, cp, rfl⟩ := H.p.slice
  obtain ⟨pl, cl, rfl⟩ := H.l.slice
  obtain ⟨pq, cq, rfl⟩ := qv.slice
  have h0 := (Own.start W).new (akO x (.slice pp x.c.ps.length cp) (.slice pl x.c.ls.length cl) vb va vk)
  have Hh := Lib.hid (head13_any h0)
  have HG := fun w' (hb : Stp W w') => Lib.hid (aGood_no (w := w') (H.stp hb) hg)
  clear h0 hg
  unfold akV at HG ⊢
  clear H
  go_enter Tryz.func7, Tryz.ntmps7
  go_wp2_with fail
  refine Hh.out.mono ?_
  rintro e w1 ⟨rfl, hO⟩
  obtain ⟨d0, d1, d2, d3, d4, d5, d6, d7, d8, d9, d10, d11, d12, d13⟩ := akCells hO
  go_wp2_with fail
  refine (HG _ hO.toBelow).out.mono ?_
  rintro e w2 ⟨rfl, hB⟩
  have hO := hO.below hB
  clear hB HG Hh d0 d1 d2 d3 d4 d5 d6 d7 d8 d9 d10 d11 d12 d13
  have HB := Lib.hid hO.toBelow
  clear hO
  go_wp2_with fail
  go_ret
  exact ⟨rfl, HB.out⟩
theorem ReleaseSteps_long (W : World) (x : Ak) {vp vl vb va vk : Value} (H : AkAt W x vp vl vb va vk) (hg : GoodA x) (vq : Value) (q : List Int) (ql : q.length ≤ maxLen) (qw : ∀ n ∈ q, (Lit.int .u16 n).wf = true) (qv : IntsAt W .u16 vq q) (hq : 20 < q.length) (pick : Int) (pick0 : IntKind.u8.min ≤ pick) (pick1 : pick ≤ IntKind.u8.max) (raw : Int) (raw0 : IntKind.u16.min ≤ raw) (raw1 : raw ≤ IntKind.u16.max) :
    Calls Tryz.prog 7 #[akV x vp vl vb va vk, vq, .int .u8 pick, .int .u16 raw] W fun e w' => e = .returned (.bool true) ∧ Below W.heap.size W w' := by
  obtain ⟨pp, cp, rfl⟩ := H.p.slice
  obtain ⟨pl, cl, rfl⟩ := H.l.slice
  obtain ⟨pq, cq, rfl⟩ := qv.slice
  have h0 := (Own.start W).new (akO x (.slice pp x.c.ps.length cp) (.slice pl x.c.ls.length cl) vb va vk)
  have Hh := Lib.hid (head13_any h0)
  have HG := fun w' (hb : Stp W w') => Lib.hid (aGood_yes (w := w') (H.stp hb) hg)
  have g1 : (20 : Int) < (q.length : Int) := by omega
  clear h0 hg
  unfold akV at HG ⊢
  clear H
  go_enter Tryz.func7, Tryz.ntmps7
  go_wp2_with fail
  refine Hh.out.mono ?_
  rintro e w1 ⟨rfl, hO⟩
  obtain ⟨d0, d1, d2, d3, d4, d5, d6, d7, d8, d9, d10, d11, d12, d13⟩ := akCells hO
  go_wp2_with fail
  refine (HG _ hO.toBelow).out.mono ?_
  rintro e w2 ⟨rfl, hB⟩
  have hO := hO.below hB
  clear hB HG Hh d0 d1 d2 d3 d4 d5 d6 d7 d8 d9 d10 d11 d12 d13
  have HB := Lib.hid hO.toBelow
  clear hO
  go_wp2_with fail
  go_ret
  exact ⟨rfl, HB.out⟩
set_option maxHeartbeats 20000000 in
theorem ReleaseSteps_main (W : World) (x : Ak) {vp vl vb va vk : Value} (H : AkAt W x vp vl vb va vk) (hg : GoodA x) (vq : Value) (q : List Int) (ql : q.length ≤ maxLen) (qw : ∀ n ∈ q, (Lit.int .u16 n).wf = true) (qv : IntsAt W .u16 vq q) (hq : ¬ 20 < q.length) (pick : Int) (pick0 : IntKind.u8.min ≤ pick) (pick1 : pick ≤ IntKind.u8.max) (raw : Int) (raw0 : IntKind.u16.min ≤ raw) (raw1 : raw ≤ IntKind.u16.max) :
    Calls Tryz.prog 7 #[akV x vp vl vb va vk, vq, .int .u8 pick, .int .u16 raw] W fun e w' => e = .returned (.bool true) ∧ Below W.heap.size W w' := by
  obtain ⟨pp, cp, rfl⟩ := H.p.slice
  obtain ⟨pl, cl, rfl⟩ := H.l.slice
  obtain ⟨pq, cq, rfl⟩ := qv.slice
  have h0 := (Own.start W).new (akO x (.slice pp x.c.ps.length cp) (.slice pl x.c.ls.length cl) vb va vk)
  have Hh := Lib.hid (head13_any h0)
  have hr := hg.rt
  have hl40 := hg.l
  have hwfx := H.wf
  have hq20 : ¬ (20 : Int) < (q.length : Int) := by omega
  have hqu : ∀ y ∈ q, 0 ≤ y ∧ y ≤ 65535 := fun y hy => (show (0 : Int) ≤ y ∧ y ≤ 65535 from law_wf (qw y hy))
  have HG := fun w' (hb : Stp W w') => Lib.hid (aGood_yes (w := w') (H.stp hb) hg)
  have HWd := fun w L (h : Own W NoF L w) => Lib.hid (relWords_any H hg qv hqu (by omega) h)
  have HPk := fun w L (h : Own W NoF L w) => Lib.hid (aPokes_any H hg h)
  have HWR := Lib.hid (wr_any (l := q) hr hwfx (nR q) (by unfold nR; omega))
  have HNR := Lib.hid (show nR q ≤ 4 by unfold nR; omega)
  have Hhl := Lib.hid (hdR_len x q (nR q))
  have Hp := Lib.hid H.p
  have Hl := Lib.hid H.l
  have Hr := Lib.hid hr
  have Hwx := Lib.hid hwfx
  have hn0 := hr.n0
  have hn1 := hr.n1
  have HPKS := Lib.hid (fun (t : Nat) B ws (hB : 1099511627776 ≤ B) (h : DW x.c B ws) => ask_pokes hr t B ws hB h)
  clear h0 hg hr hwfx hqu qw qv ql
  unfold akV at HG HWd HPk ⊢
  clear H
  go_enter Tryz.func7, Tryz.ntmps7
  go_wp2_with fail
  refine Hh.out.mono ?_
  rintro e w1 ⟨rfl, hO⟩
  obtain ⟨d0, d1, d2, d3, d4, d5, d6, d7, d8, d9, d10, d11, d12, d13⟩ := akCells hO
  go_wp2_with fail
  refine (HG _ hO.toBelow).out.mono ?_
  rintro e w2 ⟨rfl, hB⟩
  have hO := hO.below hB
  clear hB HG Hh d0 d1 d2 d3 d4 d5 d6 d7 d8 d9 d10 d11 d12 d13
  obtain ⟨d0, d1, d2, d3, d4, d5, d6, d7, d8, d9, d10, d11, d12, d13⟩ := akCells hO
  generalize nR q = NR at *
  generalize hWS : wdR x q NR = ws at *
  generalize hdR x q NR = hs at *
  have HWS := Lib.hid hWS
  clear hWS
  go_wp2_with fail
  refine (HWd _ _ hO).out.mono ?_
  rintro e w4 ⟨vw, vh, rfl, hO⟩
  clear HWd d0 d1 d2 d3 d4 d5 d6 d7 d8 d9 d10 d11 d12 d13
  obtain ⟨B0, ts, hB0, hB1, hWR⟩ : ∃ (B0 : Int) (ts : List Nat), B0 ≤ 9000000000000 ∧ 1099511627776 ≤ B0 ∧ WR x.c (akW x) B0 ts hs ws := by
    obtain ⟨ts, h⟩ := HWR.out
    exact ⟨_, ts, by have := HNR.out; omega, by omega, h⟩
  have hlen : 2 ≤ ws.length ∧ ws.length ≤ 400 := by
    have h1 := sizeN_bd Hr.out
    have h2 := (ti_nat Hr.out).2.1
    have h3 := hWR.w.len
    unfold sizeN at h1 h3
    omega
  have HLn := Lib.hid hWR.w.len
  rw [← HLn.out] at hO
  obtain ⟨pw, cw, rfl⟩ := row_slice hO
  obtain ⟨ph, ch, rfl⟩ := row_slice hO.swap
  have hsl : hs.length ≤ 4 := by have := Hhl.out; have := HNR.out; omega
  clear HWR HNR Hhl
  have HWR := Lib.hid hWR
  have HHS := Lib.hid (show ∀ h ∈ hs, nmB h x.c.ti = true from fun h hh => by
    have q := hWR.hs
    rw [q, List.mem_map] at hh
    obtain ⟨t, ht, rfl⟩ := hh
    exact (relP_tk (th := 0) Hr.out t _ (hWR.lt t ht)).1)
  clear hWR
  have HLd := Lib.hid (pLaid_any (by omega) (by omega) hO)
  clear hO
  go_wp2_with fail
  refine HLd.out.mono ?_
  rintro e w5 ⟨m, rfl, hO⟩
  clear HLd
  have pk0 : (0 : Int) ≤ pick := pick0
  have pk1 : pick ≤ 255 := pick1
  have rw0 : (0 : Int) ≤ raw := raw0
  have rw1 : raw ≤ 65535 := raw1
  clear pick0 pick1 raw0 raw1
  have hnm := rhd_nm (c := x.c) (hs := hs) (pick := pick) (raw := raw) Hr.out pk0 rw0 HHS.out
  have hh64 := rhd_64 (c := x.c) (hs := hs) (pick := pick) (raw := raw) Hr.out rw0 pk0 HHS.out
  have HHd := fun w L u (h : Own W NoF (row u 3 1 hs.length (intC hs) :: L) w) => Lib.hid (relHandle_any (x := x) (vp := .slice pp x.c.ps.length cp) (vl := .slice pl x.c.ls.length cl) (vb := vb) (va := va) (vk := vk) Hr.out pk0 pk1 rw0 rw1 (by omega) h)
  generalize hHD : rhd x.c hs pick raw = hd at *
  have HHD := Lib.hid hHD
  clear hHD
  unfold akV at HHd
  have hO := hO.drew
  obtain ⟨d0, d1, d2, d3, d4, d5, d6, d7, d8, d9, d10, d11, d12, d13⟩ := akCells hO.p3
  have hxt := Ak.t_bd (x := x)
  have hxw := Hwx.out
  have f0 := hxw.t0
  have f1 := hxw.t1
  have eX : IntKind.i64.wrap x.th = x.th := IntWalk.i64_in _ (by omega)
  have eM : x.th.tmod 1001 = (x.t : Int) := by rw [hxt.2]; exact Int.tmod_eq_emod_of_nonneg (by omega)
  have HNw := fun w L (h : Own W NoF L w) => Lib.hid (relNew_any (c := x.c) (vp := .slice pp x.c.ps.length cp) (vl := .slice pl x.c.ls.length cl) (hd := hd) (th := x.t) (by have := ti_nat Hr.out; omega) (by have := ti_nat Hr.out; omega) hh64.1 hnm (by have := nm_hd hd x.c.ti (by have := ti_nat Hr.out; omega) hnm; omega) h)
  have HX := Lib.hid hxt
  have HH2 := fun w (h : Own W NoF (memA 107 m ws [] :: row (.slice pw ws.length cw) 3 1 ws.length (intC ws) :: row (.slice ph hs.length ch) 3 1 hs.length (intC hs) :: [blk W.heap.size (akO x (.slice pp x.c.ps.length cp) (.slice pl x.c.ls.length cl) vb va vk)]) w) => HHd _ _ _ h.p2
  clear hxw f0 f1 hxt
  go_wp2_with fail
  go_region_held3 (fun w' => w'.cell? ⟨W.heap.size, 0, none⟩ = some (.int .i64 x.c.th) ∧ w'.cell? ⟨W.heap.size, 1, none⟩ = some (.int .i64 x.c.st) ∧ w'.cell? ⟨W.heap.size, 2, none⟩ = some (.int .i64 x.c.ga) ∧ w'.cell? ⟨W.heap.size, 3, none⟩ = some (.int .i64 x.c.le) ∧ w'.cell? ⟨W.heap.size, 4, none⟩ = some (.int .i64 x.c.re) ∧ w'.cell? ⟨W.heap.size, 5, none⟩ = some (.int .i64 x.c.ti) ∧ w'.cell? ⟨W.heap.size, 6, none⟩ = some (.slice pp x.c.ps.length cp) ∧ w'.cell? ⟨W.heap.size, 7, none⟩ = some (.slice pl x.c.ls.length cl) ∧ w'.cell? ⟨W.heap.size, 8, none⟩ = some (.int .u8 x.lf) ∧ w'.cell? ⟨W.heap.size, 9, none⟩ = some (.int .u32 x.n) ∧ w'.cell? ⟨W.heap.size, 10, none⟩ = some (.int .u16 x.th) ∧ w'.cell? ⟨W.heap.size, 11, none⟩ = some vb ∧ w'.cell? ⟨W.heap.size, 12, none⟩ = some va ∧ w'.cell? ⟨W.heap.size, 13, none⟩ = some vk) (go_keep) (first
    | (go_at_call 12; refine (HH2 _ (by with_reducible assumption)).out.mono ?_; rintro e w' ⟨rfl, hB'⟩; have hO := Own.below (by with_reducible assumption) hB'; have hB : Stp _ w' := hB'; have d0 := Stp.cell hB d0; have d1 := Stp.cell hB d1; have d2 := Stp.cell hB d2; have d3 := Stp.cell hB d3; have d4 := Stp.cell hB d4; have d5 := Stp.cell hB d5; have d6 := Stp.cell hB d6; have d7 := Stp.cell hB d7; have d8 := Stp.cell hB d8; have d9 := Stp.cell hB d9; have d10 := Stp.cell hB d10; have d11 := Stp.cell hB d11; have d12 := Stp.cell hB d12; have d13 := Stp.cell hB d13)
    | (go_at_call 14; refine (HNw _ _ (by with_reducible assumption)).out.mono ?_; rintro e w' ⟨g, rfl, hO2⟩; obtain ⟨d0, d1, d2, d3, d4, d5, d6, d7, d8, d9, d10, d11, d12, d13⟩ := akCells hO2.p4))
  all_goals
    have hO3 : Own W NoF (relA (.slice pp x.c.ps.length cp) (.slice pl x.c.ls.length cl) g (relP x.c hd x.t) s0R :: memA 107 m ws [] :: row (.slice pw ws.length cw) 3 1 ws.length (intC ws) :: row (.slice ph hs.length ch) 3 1 hs.length (intC hs) :: [blk W.heap.size (akO x (.slice pp x.c.ps.length cp) (.slice pl x.c.ls.length cl) vb va vk)]) _ := hO2
    obtain ⟨d0, d1, d2, d3, d4, d5, d6, d7, d8, d9, d10, d11, d12, d13⟩ := akCells hO3.p4
    have HPk1 := HPk _ _ hO3
    clear hO hO2 hO3 HPk HHd HH2 HNw eX eM
    go_wp2_with fail
    refine HPk1.out.mono ?_
    rintro e w7 ⟨vy, rfl, hO⟩
    clear HPk1 d0 d1 d2 d3 d4 d5 d6 d7 d8 d9 d10 d11 d12 d13
    obtain ⟨pr3, cr3, rfl⟩ := row_slice hO
    have hpl : (poA x).length ≤ 40 := by rw [poA_len]; omega
    have hpo : (relP x.c hd x.t).Ok := relP_ok Hr.out hnm HX.out.1
    have hpc : (relP x.c hd x.t).c = x.c := rfl
    have hpks : ∀ (t : Nat) B ws, B0 ≤ B → DW x.c B ws → DW x.c B (pokesAt t (poA x) ws) := fun t B ws hB h => HPKS.out t B ws (by omega) h
    have hpst : TkStill x.c (poA x) := ask_still Hr.out
    have hbd : Liv (relP x.c hd x.t) ws → BdOk x.c (ws.getD ((relP x.c hd x.t).tk + 1) 0) := fun hL => given_bd Hr.out HWR.out hnm hL
    have hdw : DW x.c B0 ws := HWR.out.w
    have hO : Own W NoF (relA (.slice pp x.c.ps.length cp) (.slice pl x.c.ls.length cl) g (relP x.c hd x.t) s0R :: memA 107 m ws [] :: row (.slice pr3 (poA x).length cr3) 83 3 (poA x).length (pkC (poA x)) :: [blk W.heap.size (akO x (.slice pp x.c.ps.length cp) (.slice pl x.c.ls.length cl) vb va vk)]) w7 := hO.swap.under fun _ _ h => h.swap.under fun _ _ h => (Own.drop h.swap).under fun _ _ h => h.drop
    generalize poA x = R at *
    generalize hpe : relP x.c hd x.t = p at *
    have HST0 := Lib.hid (fun (L : List Asn) s ws lg w ok h => rel_steps (W := W) (vp := .slice pp x.c.ps.length cp) (vl := .slice pl x.c.ls.length cl) g m 107 p (by rw [hpc]; exact Hp.out) (by rw [hpc]; exact Hl.out) L s ws lg w ok h)
    have HI0 := Lib.hid (show RI p B0 ws (100 + 7 * cntP R 0) 0 s0R ws [] from by have h0 := RI.start (p := p) (B0 := B0) (by rw [hpc]; exact hdw); exact ⟨h0.w, h0.ok, by have := h0.mu; omega, h0.er, h0.len, h0.oth, h0.low, h0.liv, h0.tkw⟩)
    have HPK := Lib.hid (show ∀ (t : Nat) B ws, B0 ≤ B → DW p.c B ws → DW p.c B (pokesAt t R ws) from by rw [hpc]; exact hpks)
    have HPT := Lib.hid (show TkStill p.c R from by rw [hpc]; exact hpst)
    have HBD := Lib.hid (show Liv p ws → BdOk p.c (ws.getD (p.tk + 1) 0) from by rw [hpc]; exact hbd)
    have HPO := Lib.hid hpo
    have HPC := Lib.hid hpc
    have HAn := fun (s : RS) L w (h : Own W NoF (relA (.slice pp x.c.ps.length cp) (.slice pl x.c.ls.length cl) g p s :: L) w) => Lib.hid (relAns_any h)
    have HEn := Lib.hid (fun (B : Int) (hB : B ≤ 1000000000000000000) (s : RS) ws lg (hw : DW p.c B ws) (hs : RSOk p s) (hl : lg.length < 1000000) (h6 : s.ph = 6) L w h => relStep_end (W := W) (L := L) (w := w) (vp := .slice pp x.c.ps.length cp) (vl := .slice pl x.c.ls.length cl) (g := g) (T := 107) (m := m) (ws := ws) (lg := lg) hpo hB (by rw [hpc]; exact Hp.out) (by rw [hpc]; exact Hl.out) hw hs hl h6 h)
    have HPE := Lib.hid hpe
    unfold ansV at HAn
    have HO := Lib.hid hO
    have hB00 := Lib.hid (show B0 ≤ 10000000000000 by omega)
    clear hO hpks hpst hbd hdw hpo hpc hpe HWR HHS HHD HLn HWS hnm hh64 HX HPKS
    generalize hws0 : ws = ws0 at HI0 HBD
    have HWS0 := Lib.hid hws0
    clear hws0
    go_wp2_with fail
    go_loopw [15, 16, 17, 18] (fun v15 v16 v17 v18 wr => ∃ (n : Nat) (s1 : RS) (w1 : List Int) (lg : List Acc), n ≤ 2000 ∧ v15 = .int .i64 n ∧ RI p B0 ws0 (100 + 7 * cntP R n) n s1 w1 lg ∧ s1.ph ≠ 6 ∧ Own W NoF (relA (.slice pp x.c.ps.length cp) (.slice pl x.c.ls.length cl) g p s1 :: memA 107 m w1 lg :: row (.slice pr3 R.length cr3) 83 3 R.length (pkC R) :: [blk W.heap.size (akO x (.slice pp x.c.ps.length cp) (.slice pl x.c.ls.length cl) vb va vk)]) wr) (fun v15 v16 v17 v18 _ => 2000 - (intOf v15).toNat)
    case atStart => exact ⟨0, _, ws, [], by decide, rfl, by rw [HWS0.out]; exact HWS0.out ▸ HI0.out, by decide, HO.out⟩
    case round =>
      obtain ⟨n, s1, w1, lg, hn, rfl, hI, hs6, hO⟩ := hrel
      have hnb : n ≤ 380 := by have h1 := hI.mu; have h2 := cntP_le R n; omega
      have HO2 := Lib.hid hO
      have HI := Lib.hid hI
      clear HO HI0 hO hI hlen
      have f60 : decide ((n : Int) < 2000) = true := by simp; omega
      go_wp2_with fail
      go_loopw [16] (fun v16 wr => ∃ k : Nat, k ≤ R.length ∧ v16 = .int .i64 k ∧ Own W NoF (memA 107 m (pokesAt n (R.take k) w1) lg :: relA (.slice pp x.c.ps.length cp) (.slice pl x.c.ls.length cl) g p s1 :: row (.slice pr3 R.length cr3) 83 3 R.length (pkC R) :: [blk W.heap.size (akO x (.slice pp x.c.ps.length cp) (.slice pl x.c.ls.length cl) vb va vk)]) wr) (fun v16 _ => R.length - (intOf v16).toNat)
      case atStart => exact ⟨0, Nat.zero_le _, rfl, HO2.out.swap⟩
      case round =>
        obtain ⟨k, hk, rfl, hO⟩ := hrel
        clear HO2
        by_cases hkl : k < R.length
        · obtain ⟨b3, o3, e3, hb3, hc3⟩ := hO.p2.pksAt.at (by rw [pkC_len]; omega) (by omega)
          have Hnx := Lib.hid (pokes_take (t := (n : Int)) hkl w1)
          obtain ⟨y, hy⟩ : ∃ y, y = R.getD k default := ⟨_, rfl⟩
          have e := fun j hj => pkC_get R k j hkl hj
          rw [← hy] at e Hnx
          have x0 : wr.cell? ⟨b3, o3 + k * 3, none⟩ = some (.int .i64 y.at_) := hc3 (k * 3 + 0) _ (e 0 (by omega))
          have x1 : wr.cell? ⟨b3, o3 + k * 3 + 1, none⟩ = some (.int .i64 y.w) := hc3 (k * 3 + 1) _ (e 1 (by omega))
          have x2 : wr.cell? ⟨b3, o3 + k * 3 + 2, none⟩ = some (.int .i64 y.x) := hc3 (k * 3 + 2) _ (e 2 (by omega))
          clear hc3 e hy
          subst e3
          have HO := Lib.hid hO
          clear hO
          generalize pokesAt n (R.take k) w1 = wk at HO Hnx
          by_cases hat : y.at_ = n
          · have hF : (y.at_ == (n : Int)) = true := by rw [beq_iff_eq]; exact hat
            have hnx := Hnx.out
            rw [if_pos hat] at hnx
            have Hnx2 := Lib.hid hnx
            have HPw := Lib.hid (fun w h => PokeW_any (w0 := W) (F0 := NoF) (L := relA (.slice pp x.c.ps.length cp) (.slice pl x.c.ls.length cl) g p s1 :: row (.slice (some ⟨b3, o3, none⟩) R.length cr3) 83 3 R.length (pkC R) :: [blk W.heap.size (akO x (.slice pp x.c.ps.length cp) (.slice pl x.c.ls.length cl) vb va vk)]) (T := 107) (m := m) (ws := wk) (l := lg) (w := w) y h)
            clear hat hnx Hnx
            go_wp2_with fail
            refine wp_region_still_tail 11 (by kernel_rfl) (by kernel_rfl) ?_
            simp only [List.take_succ_cons, List.take_zero, List.drop_succ_cons, List.drop_zero]
            change wpStill _ _ wr.drew _ _ _
            iterate 11 still_step
            refine wpStill_nil ?_
            change wpList _ _ _ _ _ wr.drew
            go_wp2_with fail
            refine (HPw.out _ HO.out.drew).mono ?_
            rintro e w9 ⟨rfl, hO⟩
            rw [← Hnx2.out] at hO
            have HO3 := Lib.hid hO
            clear hO x0 x1 x2 HPw HO
            go_wp2_with fail
            go_roundw
            case rel => exact ⟨k + 1, by omega, by go_num, HO3.out⟩
            case measure => simp [intOf]; omega
          · have hF : (y.at_ == (n : Int)) = false := by rw [beq_eq_false_iff_ne]; exact hat
            have hnx := Hnx.out
            rw [if_neg hat] at hnx
            have Hnx2 := Lib.hid hnx
            clear hat hnx Hnx
            go_wp2_with fail
            go_roundw
            case rel => exact ⟨k + 1, by omega, by go_num, by rw [Hnx2.out]; exact HO.out⟩
            case measure => simp [intOf]; omega
        · obtain rfl : k = R.length := by omega
          rw [List.take_length] at hO
          have hI2 := HI.out.poke HPK.out HPT.out
          generalize pokesAt n R w1 = wk at hO hI2
          have hB := bt_le (B0 := B0) (t := n) hB00.out (by omega)
          have hST := HST0.out _ s1 wk lg wr ⟨HPO.out, ⟨_, hB, hI2.w, hI2.ok⟩, hI2.body HBD.out, by rw [hI2.len]; omega⟩ hO.swap
          have q1 := hI2.step HPO.out hB00.out (show n ≤ 1000000 by omega) HBD.out hs6
          have qf := stepR_flag (p := p) (ws := wk) (lg := lg) hI2.ok
          simp only [relM] at hST
          generalize (stepR p s1 wk lg).1 = s2 at *
          generalize (stepR p s1 wk lg).2.1 = wz at *
          generalize (stepR p s1 wk lg).2.2.1 = lz at *
          generalize (stepR p s1 wk lg).2.2.2 = fl at *
          have hlz : lz.length = n + 1 := q1.len
          have HST := Lib.hid hST
          have Hlz := Lib.hid hlz
          have Hq1 := Lib.hid q1
          have Hqf := Lib.hid qf
          clear hST q1 qf hI2 HI hO hkl hk HPK HST0
          go_wp2_with fail
          refine HST.out.mono ?_
          rintro e w9 ⟨rfl, hO⟩
          clear HST
          have HLg := Lib.hid (Log_any (by omega) hO.swap)
          clear hO
          go_wp2_with fail
          refine HLg.out.mono ?_
          rintro e w10 ⟨vg, rfl, hO⟩
          obtain ⟨pg, cg, rfl⟩ := row_slice hO
          have hO : Own W NoF (row (.slice pg lz.length cg) 104 5 lz.length (logC lz) :: memA 107 m wz lz :: relA (.slice pp x.c.ps.length cp) (.slice pl x.c.ls.length cl) g p s2 :: row (.slice pr3 R.length cr3) 83 3 R.length (pkC R) :: [blk W.heap.size (akO x (.slice pp x.c.ps.length cp) (.slice pl x.c.ls.length cl) vb va vk)]) w10 := hO
          have g1 : ((lz.length : Int) != (n : Int) + 1) = false := by rw [Hlz.out]; simp
          clear HLg
          cases fl with
          | false =>
            have h6 : s2.ph ≠ 6 := fun e => by have := Hqf.out; rw [decide_eq_true e] at this; exact absurd this (by decide)
            obtain ⟨e1, e2, e3⟩ := rel_open h6
            have HA := HAn s2 _ _ hO.p2
            rw [e1, e2, e3] at HA
            have HO := Lib.hid hO
            have HI2 := Lib.hid (show RI p B0 ws0 (100 + 7 * cntP R (n + 1)) (n + 1) s2 wz lz from Hq1.out)
            have H6 := Lib.hid h6
            have qz := ans13Z
            clear hO e1 e2 e3 h6 Hq1 Hqf HAn HEn hlz
            go_wp2_with fail
            refine HA.out.mono ?_
            rintro e w11 ⟨rfl, hB⟩
            have HO3 := Lib.hid ((HO.out.below hB).drop.swap)
            clear HA HO hB
            go_wp2_with fail
            go_roundw
            case rel => exact ⟨n + 1, s2, wz, lz, by omega, by go_num, HI2.out, H6.out, HO3.out⟩
            case measure => simp [intOf]; omega
          | true =>
            have h6 : s2.ph = 6 := of_decide_eq_true Hqf.out.symm
            obtain ⟨e1, e2, e3⟩ := rel_shut h6
            have hsix := Hq1.out.ok.six h6
            have HA := HAn s2 _ _ hO.p2
            rw [e1, e2, e3] at HA
            have HO := Lib.hid hO
            have H6 := Lib.hid h6
            have HAn2 := fun w (L : List Asn) (h : Own W NoF (relA (.slice pp x.c.ps.length cp) (.slice pl x.c.ls.length cl) g p s2 :: L) w) => (by have h2 := HAn s2 _ _ h; rw [e1, e2, e3] at h2; exact h2 : Hid (Calls Tryz.prog 19 #[.pointer (some ⟨g, 0, none⟩)] w fun e w' => e = .returned (.agg #[.int .i64 s2.er, .int .i64 s2.an, .bool false, .int .i64 s2.nd]) ∧ Below w.heap.size w w'))
            have HSm := fun w (L : List Asn) (h : Own W NoF (relA (.slice pp x.c.ps.length cp) (.slice pl x.c.ls.length cl) g p s2 :: L) w) => Lib.hid (relStep_same (.pointer (some ⟨m, 0, none⟩)) h6 h)
            have HLo := fun w (L : List Asn) (h : Own W NoF (memA 107 m wz lz :: L) w) => Lib.hid (Log_b (by omega) h)
            have hwn : IntKind.i64.wrap ((n : Int) + 1) = (n : Int) + 1 := IntWalk.i64_in _ (by omega)
            have g2 : ((lz.length : Int) == (n : Int) + 1) = true := by rw [Hlz.out]; simp
            have qr := ans_refl s2.er s2.an false s2.nd
            clear hO h6 e1 e2 e3 HAn HEn Hq1 Hqf
            generalize s2.er = er at *
            generalize s2.an = an at *
            generalize s2.nd = nd at *
            go_wp2_with fail
            refine HA.out.mono ?_
            rintro e w11 ⟨rfl, hB⟩
            have hO := HO.out.below hB
            clear HA HO hB
            obtain ⟨NB, hNBe⟩ : ∃ NB, NB = w11.heap.size := ⟨_, rfl⟩
            have hNB := hO.new (.cells #[.int .i64 er, .int .i64 an, .bool false, .int .i64 nd] 54)
            rw [← hNBe] at hNB
            have hO := hNB.drew
            have z0 := hO.cell (i := 0) (v := .int .i64 er) rfl
            have z1 := hO.cell (i := 1) (v := .int .i64 an) rfl
            have z2 := hO.cell (i := 2) (v := .bool false) rfl
            have z3 := hO.cell (i := 3) (v := .int .i64 nd) rfl
            have HO := Lib.hid hO
            clear hO hNB
            rcases hsix with ⟨rfl, rfl, rfl⟩ | ⟨rfl, -⟩
            · have g5 : ((5 : Int) == 0) = false := by decide
              go_wp2_with fail
              rw [← hNBe]
              clear hNBe
              try dsimp only [List.append]
              go_region_held3 (fun w' => w'.cell? ⟨NB, 0, none⟩ = some (.int .i64 5) ∧ w'.cell? ⟨NB, 1, none⟩ = some (.int .i64 0) ∧ w'.cell? ⟨NB, 2, none⟩ = some (.bool false) ∧ w'.cell? ⟨NB, 3, none⟩ = some (.int .i64 0)) (go_keep) (first
                | (go_at_call 34; refine (HSm _ _ HO.out.p3).out.mono ?_; rintro e w12 ⟨rfl, rfl⟩)
                | (go_at_call 22; refine (HLo _ _ HO.out.p2).out.mono ?_; rintro e w13 ⟨v13, rfl, hA⟩; obtain ⟨p13, c13, rfl⟩ := row_slice hA; have hB : Stp _ w13 := hA.toBelow; have HO := Lib.hid (HO.out.below hA.toBelow); have z0 := Stp.cell hB z0; have z1 := Stp.cell hB z1; have z2 := Stp.cell hB z2; have z3 := Stp.cell hB z3; clear hA hB)
                | (go_at_call 19; refine (HAn2 _ _ HO.out.p3).out.mono ?_; rintro e w14 ⟨rfl, hB'⟩; have hB : Stp _ w14 := hB'; have HO := Lib.hid (HO.out.below hB'); have z0 := Stp.cell hB z0; have z1 := Stp.cell hB z1; have z2 := Stp.cell hB z2; have z3 := Stp.cell hB z3; clear hB hB'))
              all_goals
                have HB := Lib.hid HO.out.toBelow
                clear HO z0 z1 z2 z3
                go_wp2_with fail
                go_ret
                exact ⟨rfl, HB.out⟩
            · have g5 : ((0 : Int) == 0) = true := by decide
              go_wp2_with fail
              rw [← hNBe]
              clear hNBe
              try dsimp only [List.append]
              refine wp_region_held_drew (S := (fun w' => w'.cell? ⟨NB, 0, none⟩ = some (.int .i64 0) ∧ w'.cell? ⟨NB, 1, none⟩ = some (.int .i64 an) ∧ w'.cell? ⟨NB, 2, none⟩ = some (.bool false) ∧ w'.cell? ⟨NB, 3, none⟩ = some (.int .i64 nd))) (by kernel_rfl) ?_ (fun hHeld => ?_)
              · exact ⟨z0, z1, z2, z3⟩
              refine wpAnyH_takeD (i := 0) (d := 102) (v := ?v0) rfl rfl (by kernel_rfl) (by kernel_rfl) (by kernel_rfl) (fun _ _ _ h => h) (Or.inl ⟨by kernel_rfl, ?y0⟩) (by assumption) ?r0
              case y0 => (intro w hSw; (try dsimp only at hSw); first | (go_simp; done) | (go_simp; with_reducible rfl))
              try simp only [Act.put, List.setIfInBounds_toArray, List.set_cons_zero, List.set_cons_succ]
              refine wpAnyH_takeD (i := 1) (d := 103) (v := ?v1) rfl rfl (by kernel_rfl) (by kernel_rfl) (by kernel_rfl) (fun _ _ _ h => h) (Or.inl ⟨by kernel_rfl, ?y1⟩) (by assumption) ?r1
              case y1 => (intro w hSw; (try dsimp only at hSw); first | (go_simp; done) | (go_simp; with_reducible rfl))
              try simp only [Act.put, List.setIfInBounds_toArray, List.set_cons_zero, List.set_cons_succ]
              refine wpAnyH_takeD (i := 2) (d := 104) (v := ?v2) rfl rfl (by kernel_rfl) (by kernel_rfl) (by kernel_rfl) (fun _ _ _ h => h) (Or.inl ⟨by kernel_rfl, ?y2⟩) (by assumption) ?r2
              case y2 => (intro w hSw; (try dsimp only at hSw); first | (go_simp; done) | (go_simp; with_reducible rfl))
              try simp only [Act.put, List.setIfInBounds_toArray, List.set_cons_zero, List.set_cons_succ]
              refine wpAnyH_takeD (i := 3) (d := 105) (v := ?v3) rfl rfl (by kernel_rfl) (by kernel_rfl) (by kernel_rfl) (fun _ _ _ h => h) (Or.inl ⟨by kernel_rfl, ?y3⟩) (by assumption) ?r3
              case y3 => (intro w hSw; (try dsimp only at hSw); first | (go_simp; done) | (go_simp; with_reducible rfl))
              try simp only [Act.put, List.setIfInBounds_toArray, List.set_cons_zero, List.set_cons_succ]
              refine wpAnyH_ready (rs := [4]) (by kernel_rfl) (by simp) ?_
              refine AllReadyH.cons rfl (fun K hK => ?_) AllReadyH.nil
              go_simp
              refine (HSm _ _ HO.out.p3).out.mono ?_
              rintro e w12 ⟨rfl, rfl⟩
              refine hK.out _ _ ?_ (fun hHeld => ?_)
              · exact ⟨z0, z1, z2, z3⟩
              clear hK K
              try simp only [Act.put, List.setIfInBounds_toArray, List.set_cons_zero, List.set_cons_succ]
              refine wpAnyH_takeD (i := 5) (d := 107) (v := ?v5) rfl rfl (by kernel_rfl) (by kernel_rfl) (by kernel_rfl) (fun _ _ _ h => h) (Or.inl ⟨by kernel_rfl, ?y5⟩) (by assumption) ?r5
              case y5 => (intro w hSw; (try dsimp only at hSw); first | (go_simp; done) | (go_simp; with_reducible rfl))
              try simp only [Act.put, List.setIfInBounds_toArray, List.set_cons_zero, List.set_cons_succ]
              refine wpAnyH_takeD (i := 6) (d := 108) (v := ?v6) rfl rfl (by kernel_rfl) (by kernel_rfl) (by kernel_rfl) (fun _ _ _ h => h) (Or.inl ⟨by kernel_rfl, ?y6⟩) (by assumption) ?r6
              case y6 => (intro w hSw; (try dsimp only at hSw); first | (go_simp; done) | (go_simp; with_reducible rfl))
              try simp only [Act.put, List.setIfInBounds_toArray, List.set_cons_zero, List.set_cons_succ]
              refine wpAnyH_takeD (i := 7) (d := 109) (v := ?v7) rfl rfl (by kernel_rfl) (by kernel_rfl) (by kernel_rfl) (fun _ _ _ h => h) (Or.inl ⟨by kernel_rfl, ?y7⟩) (by assumption) ?r7
              case y7 => (intro w hSw; (try dsimp only at hSw); first | (go_simp; done) | (go_simp; with_reducible rfl))
              try simp only [Act.put, List.setIfInBounds_toArray, List.set_cons_zero, List.set_cons_succ]
              refine wpAnyH_takeD (i := 10) (d := 112) (v := ?v10) rfl rfl (by kernel_rfl) (by kernel_rfl) (by kernel_rfl) (fun _ _ _ h => h) (Or.inl ⟨by kernel_rfl, ?y10⟩) (by assumption) ?r10
              case y10 => (intro w hSw; (try dsimp only at hSw); first | (go_simp; done) | (go_simp; with_reducible rfl))
              try simp only [Act.put, List.setIfInBounds_toArray, List.set_cons_zero, List.set_cons_succ]
              refine wpAnyH_takeD (i := 11) (d := 113) (v := ?v11) rfl rfl (by kernel_rfl) (by kernel_rfl) (by kernel_rfl) (fun _ _ _ h => h) (Or.inl ⟨by kernel_rfl, ?y11⟩) (by assumption) ?r11
              case y11 => (intro w hSw; (try dsimp only at hSw); first | (go_simp; done) | (go_simp; with_reducible rfl))
              try simp only [Act.put, List.setIfInBounds_toArray, List.set_cons_zero, List.set_cons_succ]
              refine wpAnyH_ready (rs := [8]) (by kernel_rfl) (by simp) ?_
              refine AllReadyH.cons rfl (fun K hK => ?_) AllReadyH.nil
              go_simp
              refine (HLo _ _ HO.out.p2).out.mono ?_
              rintro e w13 ⟨v13, rfl, hA⟩
              obtain ⟨p13, c13, rfl⟩ := row_slice hA
              have hB : Stp _ w13 := hA.toBelow
              have HO := Lib.hid (HO.out.below hA.toBelow)
              have z0 := Stp.cell hB z0; have z1 := Stp.cell hB z1; have z2 := Stp.cell hB z2; have z3 := Stp.cell hB z3; clear hB
              refine hK.out _ _ ?_ (fun hHeld => ?_)
              · exact ⟨z0, z1, z2, z3⟩
              clear hK K
              try simp only [Act.put, List.setIfInBounds_toArray, List.set_cons_zero, List.set_cons_succ]
              refine wpAnyH_takeD (i := 9) (d := 111) (v := ?v9) rfl rfl (by kernel_rfl) (by kernel_rfl) (by kernel_rfl) (fun _ _ _ h => h) (Or.inl ⟨by kernel_rfl, ?y9⟩) (by assumption) ?r9
              case y9 => (intro w hSw; (try dsimp only at hSw); first | (go_simp; done) | (go_simp; with_reducible rfl))
              try simp only [Act.put, List.setIfInBounds_toArray, List.set_cons_zero, List.set_cons_succ]
              refine wpAnyH_takeD (i := 12) (d := 114) (v := ?v12) rfl rfl (by kernel_rfl) (by kernel_rfl) (by kernel_rfl) (fun _ _ _ h => h) (Or.inl ⟨by kernel_rfl, ?y12⟩) (by assumption) ?r12
              case y12 => (intro w hSw; (try dsimp only at hSw); first | (go_simp; done) | (go_simp; with_reducible rfl))
              try simp only [Act.put, List.setIfInBounds_toArray, List.set_cons_zero, List.set_cons_succ]
              refine wpAnyH_takeD (i := 13) (d := 115) (v := ?v13) rfl rfl (by kernel_rfl) (by kernel_rfl) (by kernel_rfl) (fun _ _ _ h => h) (Or.inl ⟨by kernel_rfl, ?y13⟩) (by assumption) ?r13
              case y13 => (intro w hSw; (try dsimp only at hSw); first | (go_simp; done) | (go_simp; with_reducible rfl))
              try simp only [Act.put, List.setIfInBounds_toArray, List.set_cons_zero, List.set_cons_succ]
              refine wpAnyH_takeD (i := 14) (d := 116) (v := ?v14) rfl rfl (by kernel_rfl) (by kernel_rfl) (by kernel_rfl) (fun _ _ _ h => h) (Or.inl ⟨by kernel_rfl, ?y14⟩) (by assumption) ?r14
              case y14 => (intro w hSw; (try dsimp only at hSw); first | (go_simp; done) | (go_simp; with_reducible rfl))
              try simp only [Act.put, List.setIfInBounds_toArray, List.set_cons_zero, List.set_cons_succ]
              refine wpAnyH_takeD (i := 15) (d := 117) (v := ?v15) rfl rfl (by kernel_rfl) (by kernel_rfl) (by kernel_rfl) (fun _ _ _ h => h) (Or.inl ⟨by kernel_rfl, ?y15⟩) (by assumption) ?r15
              case y15 => (intro w hSw; (try dsimp only at hSw); first | (go_simp; done) | (go_simp; with_reducible rfl))
              try simp only [Act.put, List.setIfInBounds_toArray, List.set_cons_zero, List.set_cons_succ]
              refine wpAnyH_takeD (i := 17) (d := 119) (v := ?v17) rfl rfl (by kernel_rfl) (by kernel_rfl) (by kernel_rfl) (fun _ _ _ h => h) (Or.inl ⟨by kernel_rfl, ?y17⟩) (by assumption) ?r17
              case y17 => (intro w hSw; (try dsimp only at hSw); first | (go_simp; done) | (go_simp; with_reducible rfl))
              try simp only [Act.put, List.setIfInBounds_toArray, List.set_cons_zero, List.set_cons_succ]
              refine wpAnyH_ready (rs := [16]) (by kernel_rfl) (by simp) ?_
              refine AllReadyH.cons rfl (fun K hK => ?_) AllReadyH.nil
              go_simp
              refine (HAn2 _ _ HO.out.p3).out.mono ?_
              rintro e w14 ⟨rfl, hB'⟩
              have hB : Stp _ w14 := hB'
              have HO := Lib.hid (HO.out.below hB')
              have z0 := Stp.cell hB z0; have z1 := Stp.cell hB z1; have z2 := Stp.cell hB z2; have z3 := Stp.cell hB z3; clear hB
              refine hK.out _ _ ?_ (fun hHeld => ?_)
              · exact ⟨z0, z1, z2, z3⟩
              clear hK K
              try simp only [Act.put, List.setIfInBounds_toArray, List.set_cons_zero, List.set_cons_succ]
              refine wpAnyH_takeD (i := 18) (d := 120) (v := ?v18) rfl rfl (by kernel_rfl) (by kernel_rfl) (by kernel_rfl) (fun _ _ _ h => h) (Or.inl ⟨by kernel_rfl, ?y18⟩) (by assumption) ?r18
              case y18 => (intro w hSw; (try dsimp only at hSw); first | (go_simp; done) | (go_simp; with_reducible rfl))
              try simp only [Act.put, List.setIfInBounds_toArray, List.set_cons_zero, List.set_cons_succ]
              refine wpAnyH_takeD (i := 19) (d := 121) (v := ?v19) rfl rfl (by kernel_rfl) (by kernel_rfl) (by kernel_rfl) (fun _ _ _ h => h) (Or.inl ⟨by kernel_rfl, ?y19⟩) (by assumption) ?r19
              case y19 => (intro w hSw; (try dsimp only at hSw); first | (go_simp; done) | (go_simp; with_reducible rfl))
              try simp only [Act.put, List.setIfInBounds_toArray, List.set_cons_zero, List.set_cons_succ]
              refine wpAnyH_takeD (i := 20) (d := 122) (v := ?v20) rfl rfl (by kernel_rfl) (by kernel_rfl) (by kernel_rfl) (fun _ _ _ h => h) (Or.inl ⟨by kernel_rfl, ?y20⟩) (by assumption) ?r20
              case y20 => (intro w hSw; (try dsimp only at hSw); first | (go_simp; done) | (go_simp; with_reducible rfl))
              try simp only [Act.put, List.setIfInBounds_toArray, List.set_cons_zero, List.set_cons_succ]
              refine wpAnyH_takeD (i := 21) (d := 123) (v := ?v21) rfl rfl (by kernel_rfl) (by kernel_rfl) (by kernel_rfl) (fun _ _ _ h => h) (Or.inl ⟨by kernel_rfl, ?y21⟩) (by assumption) ?r21
              case y21 => (intro w hSw; (try dsimp only at hSw); first | (go_simp; done) | (go_simp; with_reducible rfl))
              try simp only [Act.put, List.setIfInBounds_toArray, List.set_cons_zero, List.set_cons_succ]
              refine wpAnyH_takeD (i := 22) (d := 124) (v := ?v22) rfl rfl (by kernel_rfl) (by kernel_rfl) (by kernel_rfl) (fun _ _ _ h => h) (Or.inl ⟨by kernel_rfl, ?y22⟩) (by assumption) ?r22
              case y22 => (intro w hSw; (try dsimp only at hSw); first | (go_simp; done) | (go_simp; with_reducible rfl))
              try simp only [Act.put, List.setIfInBounds_toArray, List.set_cons_zero, List.set_cons_succ]
              refine wpAnyH_takeD (i := 23) (d := 125) (v := ?v23) rfl rfl (by kernel_rfl) (by kernel_rfl) (by kernel_rfl) (fun _ _ _ h => h) (Or.inl ⟨by kernel_rfl, ?y23⟩) (by assumption) ?r23
              case y23 => (intro w hSw; (try dsimp only at hSw); first | (go_simp; done) | (go_simp; with_reducible rfl))
              try simp only [Act.put, List.setIfInBounds_toArray, List.set_cons_zero, List.set_cons_succ]
              refine wpAnyH_takeD (i := 24) (d := 126) (v := ?v24) rfl rfl (by kernel_rfl) (by kernel_rfl) (by kernel_rfl) (fun _ _ _ h => h) (Or.inl ⟨by kernel_rfl, ?y24⟩) (by assumption) ?r24
              case y24 => (intro w hSw; (try dsimp only at hSw); first | (go_simp; done) | (go_simp; with_reducible rfl))
              try simp only [Act.put, List.setIfInBounds_toArray, List.set_cons_zero, List.set_cons_succ]
              refine wpAnyH_takeD (i := 25) (d := 127) (v := undef) rfl rfl (by kernel_rfl) (by kernel_rfl) (by kernel_rfl) (fun _ _ _ h => h) (Or.inr ⟨by kernel_rfl, rfl⟩) (by assumption) ?r25
              try simp only [Act.put, List.setIfInBounds_toArray, List.set_cons_zero, List.set_cons_succ]
              refine wpAnyH_takeD (i := 26) (d := 128) (v := undef) rfl rfl (by kernel_rfl) (by kernel_rfl) (by kernel_rfl) (fun _ _ _ h => h) (Or.inr ⟨by kernel_rfl, rfl⟩) (by assumption) ?r26
              try simp only [Act.put, List.setIfInBounds_toArray, List.set_cons_zero, List.set_cons_succ]
              refine wpAnyH_takeD (i := 27) (d := 129) (v := undef) rfl rfl (by kernel_rfl) (by kernel_rfl) (by kernel_rfl) (fun _ _ _ h => h) (Or.inr ⟨by kernel_rfl, rfl⟩) (by assumption) ?r27
              try simp only [Act.put, List.setIfInBounds_toArray, List.set_cons_zero, List.set_cons_succ]
              refine wpAnyH_takeD (i := 28) (d := 130) (v := ?v28) rfl rfl (by kernel_rfl) (by kernel_rfl) (by kernel_rfl) (fun _ _ _ h => h) (Or.inl ⟨by kernel_rfl, ?y28⟩) (by assumption) ?r28
              case y28 => (intro w hSw; (try dsimp only at hSw); first | (go_simp; done) | (go_simp; with_reducible rfl))
              try simp only [Act.put, List.setIfInBounds_toArray, List.set_cons_zero, List.set_cons_succ]
              refine wpAnyH_takeD (i := 29) (d := 131) (v := ?v29) rfl rfl (by kernel_rfl) (by kernel_rfl) (by kernel_rfl) (fun _ _ _ h => h) (Or.inl ⟨by kernel_rfl, ?y29⟩) (by assumption) ?r29
              case y29 => (intro w hSw; (try dsimp only at hSw); first | (go_simp; done) | (go_simp; with_reducible rfl))
              try simp only [Act.put, List.setIfInBounds_toArray, List.set_cons_zero, List.set_cons_succ]
              refine wpAnyH_takeD (i := 30) (d := 8) (v := ?v30) rfl rfl (by kernel_rfl) (by kernel_rfl) (by kernel_rfl) (fun _ _ _ h => h) (Or.inl ⟨by kernel_rfl, ?y30⟩) (by assumption) ?r30
              case y30 => (intro w hSw; (try dsimp only at hSw); first | (go_simp; done) | (go_simp; with_reducible rfl))
              try simp only [Act.put, List.setIfInBounds_toArray, List.set_cons_zero, List.set_cons_succ]
              refine wpAnyH_done (by kernel_rfl) ?_ _
              have HB := Lib.hid HO.out.toBelow
              clear HO z0 z1 z2 z3
              go_wp2_with fail
              go_ret
              exact ⟨rfl, HB.out⟩
theorem ReleaseSteps_calls (W : World) (x : Ak) (vp vl vb va vk : Value) (hwd : Wide x.c) (hwf : x.Wf) (hp : IntsAt W .i64 vp x.c.ps) (hl : IntsAt W .i64 vl x.c.ls) (hb : BlsAt W vb x.bs) (ha : IntsAt W .u32 va x.av) (hk : PksAt W vk x.l) (vq : Value) (q : List Int) (ql : q.length ≤ maxLen) (qw : ∀ n ∈ q, (Lit.int .u16 n).wf = true) (qv : IntsAt W .u16 vq q) (pick : Int) (pick0 : IntKind.u8.min ≤ pick) (pick1 : pick ≤ IntKind.u8.max) (raw : Int) (raw0 : IntKind.u16.min ≤ raw) (raw1 : raw ≤ IntKind.u16.max) :
    Calls Tryz.prog 7 #[akV x vp vl vb va vk, vq, .int .u8 pick, .int .u16 raw] W fun e w' => e = .returned (.bool true) ∧ Below W.heap.size W w' := by
  by_cases hg : GoodA x
  · by_cases hq : 20 < q.length
    · exact ReleaseSteps_long W x ⟨hwd, hwf, hp, hl, hb, ha, hk⟩ hg vq q ql qw qv hq pick pick0 pick1 raw raw0 raw1
    · exact ReleaseSteps_main W x ⟨hwd, hwf, hp, hl, hb, ha, hk⟩ hg vq q ql qw qv hq pick pick0 pick1 raw raw0 raw1
  · exact ReleaseSteps_bad W x ⟨hwd, hwf, hp, hl, hb, ha, hk⟩ hg vq q ql qw qv pick pick0 pick1 raw raw0 raw1
end Go.Proofs.YtjfjjmlocgmicaaGreat
