/- ReleaseAgain. Written by tools/gen_rel*.py. -/
import Derived.Test.YtjfjjmlocgmicaaGreatC2
import Derived.Test.YtjfjjmlocgmicaaGreatC6
import Derived.Test.YtjfjjmlocgmicaaGreatC9
import Derived.Test.YtjfjjmlocgmicaaGreatC16
import Derived.Test.YtjfjjmlocgmicaaGreatC28
import Derived.Test.YtjfjjmlocgmicaaGreatC29
import Derived.Test.YtjfjjmlocgmicaaGreatC38
import Derived.Test.YtjfjjmlocgmicaaGreatC39
import Derived.Lib.QuietBelow
import Derived.Deep.RegionWith
import Derived.StillTailTactics
namespace Go.Proofs.YtjfjjmlocgmicaaGreat
open Go.ChangeShapes Go.WideShapes Go.ChangeAt Go.RowKit Go.Shelf
set_option linter.unusedVariables false
set_option linter.unusedSimpArgs false
set_option maxRecDepth 100000
theorem an13N (e n : Int) (x : Bool) (q : Int) (w : World) : (Instr.field 54 (.agg #[.int .i64 e, .int .i64 n, .bool x, .int .i64 q]) 1).run Tryz.prog w = .ok (.int .i64 n) w := by kernel_rfl
theorem an13E (e n : Int) (x : Bool) (q : Int) (w : World) : (Instr.field 54 (.agg #[.int .i64 e, .int .i64 n, .bool x, .int .i64 q]) 0).run Tryz.prog w = .ok (.int .i64 e) w := by kernel_rfl
theorem ReleaseAgain_great (W : World) (c : Cf) {vp vl : Value} (hw : Wide c) (hp : IntsAt W .i64 vp c.ps) (hl : IntsAt W .i64 vl c.ls) (h : ¬ (c.ps.length ≤ 100 ∧ c.ls.length ≤ 100)) (lf : Int) (lf0 : IntKind.u8.min ≤ lf) (lf1 : lf ≤ IntKind.u8.max) (n : Int) (n0 : IntKind.u32.min ≤ n) (n1 : n ≤ IntKind.u32.max) (th : Int) (th0 : IntKind.u16.min ≤ th) (th1 : th ≤ IntKind.u16.max) :
    Calls Tryz.prog 6 #[cfV c vp vl, .int .u8 lf, .int .u32 n, .int .u16 th] W fun e w' => e = .returned (.bool true) ∧ Below W.heap.size W w' := by
  obtain ⟨pp, cp, rfl⟩ := hp.slice
  obtain ⟨pl, cl, rfl⟩ := hl.slice
  have h0 := (Own.start W).new (cfO c (.slice pp c.ps.length cp) (.slice pl c.ls.length cl))
  have Hh := Lib.hid (head13_any h0)
  clear h0
  have HG := fun w => Lib.hid (Great_yes (pp := pp) (pl := pl) (np := c.ps.length) (nl := c.ls.length) (cp := cp) (cl := cl) c hw.pn hw.ln (by omega) w)
  clear hw h hp hl
  go_enter Tryz.func6, Tryz.ntmps6
  go_wp2_with fail
  refine Hh.out.mono ?_
  rintro e w1 ⟨rfl, hO⟩
  obtain ⟨d0, d1, d2, d3, d4, d5, d6, d7⟩ := conf_cells hO
  go_wp2_with fail
  refine (HG _).out.mono ?_
  rintro e w2 ⟨rfl, hB⟩
  have hO := hO.below hB
  clear hB HG Hh d0 d1 d2 d3 d4 d5 d6 d7
  have HB := Lib.hid hO.toBelow
  clear hO
  go_wp2_with fail
  go_ret
  exact ⟨rfl, HB.out⟩
theorem ReleaseAgain_wrong (W : World) (c : Cf) {vp vl : Value} (hw : Wide c) (hp : IntsAt W .i64 vp c.ps) (hl : IntsAt W .i64 vl c.ls) (h : c.ps.length ≤ 100 ∧ c.ls.length ≤ 100) (hr : ¬ c.Rt) (lf : Int) (lf0 : IntKind.u8.min ≤ lf) (lf1 : lf ≤ IntKind.u8.max) (n : Int) (n0 : IntKind.u32.min ≤ n) (n1 : n ≤ IntKind.u32.max) (th : Int) (th0 : IntKind.u16.min ≤ th) (th1 : th ≤ IntKind.u16.max) :
    Calls Tryz.prog 6 #[cfV c vp vl, .int .u8 lf, .int .u32 n, .int .u16 th] W fun e w' => e = .returned (.bool true) ∧ Below W.heap.size W w' := by
  obtain ⟨pp, cp, rfl⟩ := hp.slice
  obtain ⟨pl, cl, rfl⟩ := hl.slice
  have h0 := (Own.start W).new (cfO c (.slice pp c.ps.length cp) (.slice pl c.ls.length cl))
  have Hh := Lib.hid (head13_any h0)
  clear h0
  have HG := fun w => Lib.hid (Great_no (pp := pp) (pl := pl) (np := c.ps.length) (nl := c.ls.length) (cp := cp) (cl := cl) c h.1 h.2 w)
  have HR := fun w' (hb : Stp W w') => Lib.hid (rRight_any c (hw.wf h.1 h.2) (hp.stp hb) (hl.stp hb))
  rw [rtB_no hr] at HR
  clear hw h hp hl hr
  go_enter Tryz.func6, Tryz.ntmps6
  go_wp2_with fail
  refine Hh.out.mono ?_
  rintro e w1 ⟨rfl, hO⟩
  obtain ⟨d0, d1, d2, d3, d4, d5, d6, d7⟩ := conf_cells hO
  go_wp2_with fail
  refine (HG _).out.mono ?_
  rintro e w2 ⟨rfl, hB⟩
  have hO := hO.below hB
  clear hB HG Hh d0 d1 d2 d3 d4 d5 d6 d7
  obtain ⟨d0, d1, d2, d3, d4, d5, d6, d7⟩ := conf_cells hO
  go_wp2_with fail
  refine (HR _ hO.toBelow).out.mono ?_
  rintro e w3 ⟨rfl, hB⟩
  have hO := hO.below hB
  clear hB HR d0 d1 d2 d3 d4 d5 d6 d7
  have HB := Lib.hid hO.toBelow
  clear hO
  go_wp2_with fail
  go_ret
  exact ⟨rfl, HB.out⟩
set_option maxHeartbeats 20000000 in
theorem ReleaseAgain_main (W : World) (c : Cf) {vp vl : Value} (hwf : c.Wf) (hr : c.Rt) (hp : IntsAt W .i64 vp c.ps) (hl : IntsAt W .i64 vl c.ls) (lf : Int) (lf0 : IntKind.u8.min ≤ lf) (lf1 : lf ≤ IntKind.u8.max) (n : Int) (n0 : IntKind.u32.min ≤ n) (n1 : n ≤ IntKind.u32.max) (th : Int) (th0 : IntKind.u16.min ≤ th) (th1 : th ≤ IntKind.u16.max) :
    Calls Tryz.prog 6 #[cfV c vp vl, .int .u8 lf, .int .u32 n, .int .u16 th] W fun e w' => e = .returned (.bool true) ∧ Below W.heap.size W w' := by
  obtain ⟨pp, cp, rfl⟩ := hp.slice
  obtain ⟨pl, cl, rfl⟩ := hl.slice
  have h0 := (Own.start W).new (cfO c (.slice pp c.ps.length cp) (.slice pl c.ls.length cl))
  have Hh := Lib.hid (head13_any h0)
  clear h0
  have a0 : 0 ≤ lf := lf0
  have a1 : lf ≤ 255 := lf1
  have a2 : 0 ≤ n := n0
  have a3 : n ≤ 4294967295 := n1
  have a4 : 0 ≤ th := th0
  have a5 : th ≤ 65535 := th1
  clear lf0 lf1 n0 n1 th0 th1
  obtain ⟨LF, rfl⟩ : ∃ LF : Nat, lf = LF := ⟨lf.toNat, by omega⟩
  obtain ⟨N0, hN0⟩ : ∃ N0 : Nat, n % 30 = (N0 : Int) := ⟨(n % 30).toNat, by omega⟩
  have hN1 : N0 < 30 := by omega
  have eN : n.tmod 30 = (N0 : Int) := by rw [← hN0]; exact Int.tmod_eq_emod_of_nonneg a2
  have eN2 : IntKind.i64.wrap n = n := IntWalk.i64_in _ (by omega)
  obtain ⟨T, hT0⟩ : ∃ T : Nat, th % 1001 = (T : Int) := ⟨(th % 1001).toNat, by omega⟩
  have hT1 : T ≤ 1000 := by omega
  have eT : th.tmod 1001 = (T : Int) := by rw [← hT0]; exact Int.tmod_eq_emod_of_nonneg a4
  have eT2 : IntKind.i64.wrap th = th := IntWalk.i64_in _ (by omega)
  have hn0 := hr.n0
  have hn1 := hr.n1
  have hti := ti_nat hr
  obtain ⟨V, hV, hV1⟩ : ∃ V : Nat, lfOf c LF = (V : Int) ∧ V < c.ps.length := ⟨(lfOf c LF).toNat, by have := (lfOf_bd hr LF).2; omega, by have := (lfOf_bd hr LF).2; omega⟩
  have hP : (⟨c, V, (N0 : Int) + 1, T⟩ : DP).Ok := ⟨hr, hV1, by show (1 : Int) ≤ (N0 : Int) + 1; omega, by show (N0 : Int) + 1 ≤ 1048576; omega, hT1⟩
  obtain ⟨F, hF⟩ : ∃ F : Nat, F = T % c.ti.toNat := ⟨_, rfl⟩
  have hFt : F < c.ti.toNat := by rw [hF]; exact Nat.mod_lt _ (by omega)
  have eF : (T : Int).tmod c.ti = (F : Int) := by
    rw [Int.tmod_eq_emod_of_nonneg (by omega), hF, Int.natCast_emod, ← hti.1]
  have htz : ¬ c.ti = 0 := by omega
  have hA := adm_facts hP (B := 1099511627776) (by decide) (fresh_dw hr)
  have hfree : stS ((freshW c c.ps.length).getD (tkN c F) 0) = 0 := by rw [fresh_hi c c.ps.length _ (by unfold tkN; omega)]; decide +kernel
  have HG := fun w => Lib.hid (Great_no (pp := pp) (pl := pl) (np := c.ps.length) (nl := c.ls.length) (cp := cp) (cl := cl) c (by omega) (by have := hr.ll; omega) w)
  have HR := fun w' (hb : Stp W w') => Lib.hid (rRight_any c hwf (hp.stp hb) (hl.stp hb))
  rw [rtB_yes hr] at HR
  have HLf := fun w' (hs : Stp W w') => Lib.hid (aLeaf_any c hr (hp.stp hs) (hl.stp hs) LF (by omega))
  rw [hV] at HLf
  have HAd0 := fun w L (h : Own W NoF L w) => relAdm_any (⟨c, V, (N0 : Int) + 1, T⟩ : DP) hP hp hl h
  dsimp only at HAd0 hA
  have hAg := fun hl (k : Nat) (sR : RS) (ws2 ws3 : List Int) (sD : DS) (B2 : Int) => rel_again (th := 3) (k := k) (s1 := sR) (ws2 := ws2) (ws3 := ws3) (s2 := sD) (B1 := 0) (B2 := B2) hP hF hfree hA hl
  generalize admW ⟨c, V, (N0 : Int) + 1, T⟩ (freshW c c.ps.length) = ws1 at *
  generalize admS ⟨c, V, (N0 : Int) + 1, T⟩ (freshW c c.ps.length) = sA at *
  have hlen : ws1.length = sizeN c := hA.w.len
  have hdw1 := hA.w
  dsimp only at hdw1 hAg
  rw [← hlen] at HAd0
  have HAd := fun w L (h : Own W NoF L w) => Lib.hid (HAd0 w L h)
  have HTk := fun w' => (show Calls Tryz.prog 30 #[cfV c (.slice pp c.ps.length cp) (.slice pl c.ls.length cl), .int .i64 F] w' fun e w'' => e = .returned (.int .i64 (tkN c F)) ∧ Below w'.heap.size w' w'' from by
    have h := rTicket_q (pp := pp) (np := c.ps.length) (cp := cp) (pl := pl) (nl := c.ls.length) (cl := cl) c hr.sm hn1 (F : Int) (by omega) (by omega) w'
    rw [limN_eq hr.sm] at h
    rw [show ((tkN c F : Nat) : Int) = (limN c c.ps.length : Int) + 2 * (F : Int) from by unfold tkN; omega]
    exact h)
  have hsz := sizeN_bd hr
  have hIn : tkN c F < ws1.length := by rw [hlen]; unfold tkN sizeN; omega
  have hL1 : 1 ≤ ws1.length ∧ ws1.length ≤ 400 := by omega
  have hwf1 : I64 (ws1.getD (tkN c F) 0) := hA.w.wf _
  have HSt := fun w => rState_any (ws1.getD (tkN c F) 0) (by unfold I64 at hwf1; unfold W64; omega) w
  have HHn := fun w => sHandle_any (F : Int) (ws1.getD (tkN c F) 0) (by unfold W64; omega) (by unfold I64 at hwf1; unfold W64; omega) w
  obtain ⟨b1, b2, b3, b4⟩ := nm_of F (ws1.getD (tkN c F) 0) c.ti (by omega) (by omega)
  have hrp := fun th => (relP_tk hr F (ws1.getD (tkN c F) 0) hFt th).2
  have hpo := fun (th : Nat) (h : th ≤ 1000) => relP_ok hr b1 h
  have HRN := fun th w L (h : Own W NoF L w) => relNew_any (vp := .slice pp c.ps.length cp) (vl := .slice pl c.ls.length cl) (th := th) (by omega) (by omega) b4 b1 (by rw [b2]; omega) h
  simp only [b2, b3, Int.toNat_natCast] at HRN
  simp only [hrp] at hpo
  have Hp := Lib.hid hp
  have Hl := Lib.hid hl
  have Hr := Lib.hid hr
  have HP := Lib.hid hP
  have Hdw1 := Lib.hid hdw1
  have HAg := Lib.hid hAg
  have HLN := Lib.hid hlen
  have HRn := fun th w L h => Lib.hid (HRN th w L h)
  have Hpo := Lib.hid hpo
  clear hA hfree HAd0 hAg hwf1 b1 b2 b3 b4 hrp hpo HRN hp hl hr hP hdw1 hlen hN0 hT0 hF hV hsz hwf hti
  generalize hY : ws1.getD (tkN c F) 0 = Y at *
  generalize hHD : hdV F Y = hd at *
  go_enter Tryz.func6, Tryz.ntmps6
  go_wp2_with fail
  refine Hh.out.mono ?_
  rintro e w1 ⟨rfl, hO⟩
  obtain ⟨d0, d1, d2, d3, d4, d5, d6, d7⟩ := conf_cells hO
  go_wp2_with fail
  refine (HG _).out.mono ?_
  rintro e w2 ⟨rfl, hB⟩
  have hO := hO.below hB
  clear hB HG Hh d0 d1 d2 d3 d4 d5 d6 d7
  obtain ⟨d0, d1, d2, d3, d4, d5, d6, d7⟩ := conf_cells hO
  go_wp2_with fail
  refine (HR _ hO.toBelow).out.mono ?_
  rintro e w3 ⟨rfl, hB⟩
  have hO := hO.below hB
  clear hB HR d0 d1 d2 d3 d4 d5 d6 d7
  obtain ⟨d0, d1, d2, d3, d4, d5, d6, d7⟩ := conf_cells hO
  go_wp2_with fail
  refine (HLf _ hO.toBelow).out.mono ?_
  rintro e w4 ⟨rfl, hB⟩
  have hO := hO.below hB
  clear hB HLf d0 d1 d2 d3 d4 d5 d6 d7
  obtain ⟨d0, d1, d2, d3, d4, d5, d6, d7⟩ := conf_cells hO
  go_wp2_with fail
  refine (HAd _ _ hO).out.mono ?_
  rintro e w5 ⟨vw, rfl, hO⟩
  clear HAd d0 d1 d2 d3 d4 d5 d6 d7
  obtain ⟨rw_, ow, cw, rfl, -⟩ := hO.intsAt.at (by omega)
  have hO : Own W NoF (row (.slice (some ⟨rw_, ow, none⟩) ws1.length cw) 3 1 ws1.length (intC ws1) :: [blk W.heap.size (cfO c (.slice pp c.ps.length cp) (.slice pl c.ls.length cl))]) w5 := hO
  obtain ⟨d0, d1, d2, d3, d4, d5, d6, d7⟩ := conf_cells hO.swap
  go_wp2_with fail
  refine (HTk _).mono ?_
  rintro e w6 ⟨rfl, hB⟩
  have hO := hO.below hB
  clear hB HTk d0 d1 d2 d3 d4 d5 d6 d7
  have x0 := row_cell hO rfl (tkN c F) hIn
  rw [hY] at x0
  have hTK : (tkN c F : Int) < (ws1.length : Int) := by omega
  generalize hK : tkN c F = TK at *
  have HO := Lib.hid hO
  have HY := Lib.hid hY
  have HK := Lib.hid hK
  have HHD := Lib.hid hHD
  clear hO hY hK hHD
  go_wp2_with fail
  refine (HSt _).mono ?_
  rintro e w7 ⟨rfl, hB⟩
  have HO2 := Lib.hid (HO.out.below hB)
  clear hB HO x0 HSt
  by_cases hs : stS Y = 2
  · have hs2 : (stS Y != 2) = false := by rw [hs]; rfl
    have hLv := HAg.out hs
    have x0 := row_cell HO2.out rfl TK hIn
    rw [HY.out] at x0
    have hO := HO2.out
    have HLv := Lib.hid hLv
    rw [hs] at *
    clear HAg hLv hs hs2
    go_wp2_with fail
    refine (HHn _).mono ?_
    rintro e w8 ⟨rfl, hB⟩
    have HO := Lib.hid (hO.below hB)
    clear hB hO x0 HHn HO2
    have HLd := Lib.hid (pLaid_any (by omega) (by omega) HO.out)
    clear HO
    go_wp2_with fail
    refine HLd.out.mono ?_
    rintro e w9 ⟨m, rfl, hO⟩
    clear HLd
    obtain ⟨d0, d1, d2, d3, d4, d5, d6, d7⟩ := conf_cells hO.p2
    have HN := HRn 3 _ _ hO
    clear hO
    obtain ⟨B1, hB1, hdw1⟩ : ∃ B1 : Int, B1 ≤ 2000000000000 ∧ DW c B1 ws1 := ⟨_, by decide, Hdw1.out⟩
    have hbd : Liv (⟨c, F, pver Y, 3⟩ : RP) ws1 → BdOk c (ws1.getD ((⟨c, F, pver Y, 3⟩ : RP).tk + 1) 0) := fun _ => by
      have h := (HLv.out 0 s0R [] [] (s0D ⟨c, V, (N0 : Int) + 1, T⟩) 0).2.1
      rw [← HK.out] at h; exact h
    have HPl := fun g w (h : Own W NoF (relA (.slice pp c.ps.length cp) (.slice pl c.ls.length cl) g ⟨c, F, pver Y, 3⟩ s0R :: memA 107 m ws1 [] :: row (.slice (some ⟨rw_, ow, none⟩) ws1.length cw) 3 1 ws1.length (intC ws1) :: [blk W.heap.size (cfO c (.slice pp c.ps.length cp) (.slice pl c.ls.length cl))]) w) => Lib.hid (rel_alone_play (lg0 := []) g ⟨c, F, pver Y, 3⟩ B1 (by omega) Hp.out Hl.out (Hpo.out 3 (by decide)) hdw1 hbd (by simp) h)
    clear hdw1 hbd
    go_wp2_with fail
    refine HN.out.mono ?_
    rintro e w10 ⟨g, rfl, hO⟩
    have HP1 := HPl g _ hO
    clear HN hO HPl d0 d1 d2 d3 d4 d5 d6 d7
    go_wp2_with fail
    refine HP1.out.mono ?_
    rintro e w11 ⟨k1, s', ws2, lg', rfl, hk, hlk, hI, h6, hA13, hO⟩
    rw [List.nil_append] at hO
    have hI2 := hI.w
    dsimp only at hI2
    have hA2 := adm_facts HP.out (B := bt B1 k1) (by unfold bt; omega) hI2
    obtain ⟨r1, r2, r3, r4⟩ := (HLv.out k1 s' ws2 (admW ⟨c, V, (N0 : Int) + 1, T⟩ ws2) (admS ⟨c, V, (N0 : Int) + 1, T⟩ ws2) (bt B1 k1)).2.2 hA13
    obtain ⟨q1, q2, q3⟩ := r4 hA2
    have hl2 : ws2.length = ws1.length := by rw [hI2.len, HLN.out]
    have hDP := fun (k mb : Nat) w L (h : Own W NoF (rdA k ⟨c, V, (N0 : Int) + 1, T⟩ (s0D ⟨c, V, (N0 : Int) + 1, T⟩) :: memA 43 mb ws2 [] :: L) w) => rAdmit_alone k mb ⟨c, V, (N0 : Int) + 1, T⟩ HP.out (bt B1 k1) (by unfold bt; omega) hI2 h
    generalize admW ⟨c, V, (N0 : Int) + 1, T⟩ ws2 = ws3 at *
    generalize admS ⟨c, V, (N0 : Int) + 1, T⟩ ws2 = sD at *
    have hl3 : ws3.length = ws1.length := by rw [hA2.w.len, HLN.out]
    have h6D := hA2.shut
    obtain ⟨B3, hB3, hdw3⟩ : ∃ B3 : Int, B3 ≤ 9000000000000 ∧ DW c B3 ws3 := ⟨_, by unfold bt; omega, hA2.w⟩
    have hn4 := q3 4
    have hPl2 := fun g2 m2 L w (h : Own W NoF (relA (.slice pp c.ps.length cp) (.slice pl c.ls.length cl) g2 ⟨c, F, pver Y, 4⟩ s0R :: memA 107 m2 ws3 [] :: L) w) => Lib.hid (rel_alone_play (lg0 := []) g2 ⟨c, F, pver Y, 4⟩ B3 (by omega) Hp.out Hl.out (Hpo.out 4 (by decide)) hdw3 (fun hL => absurd hL hn4) (by simp) h)
    have HWd := Lib.hid (Words_any (by omega) hO.swap)
    have HDP := fun k mb w L h => Lib.hid (hDP k mb w L h)
    obtain ⟨z1, z2, z3⟩ := rel_shut h6
    have HZ := Lib.hid (And.intro (z1.trans r1) (And.intro (z2.trans r2) (z3.trans r3)))
    have g16 : ((ws2.length : Int) != (ws1.length : Int)) = false := by rw [hl2]; simp
    have HL2 := Lib.hid hl2
    have HL3 := Lib.hid hl3
    have HN4 := Lib.hid hn4
    have HQ := Lib.hid (And.intro q1 (And.intro q2 h6D))
    clear hO hI h6 hA13 hI2 hA2 r1 r2 r3 r4 q1 q2 q3 hl2 hl3 hDP h6D hdw3 hn4 z1 z2 z3 HLv HP1 hB1 hB3
    go_wp2_with fail
    refine HWd.out.mono ?_
    rintro e w12 ⟨vz, rfl, hO⟩
    obtain ⟨pz, cz, rfl⟩ := row_slice hO
    have hB := (hO.rowNil (e := 104) (size := 5)).new (.cells #[.slice pz ws2.length cz, .slice none 0 0] 43)
    have e0 := Own.cell hB (i := 0) rfl
    have hM : Own W NoF (memA 43 w12.heap.size ws2 [] :: memA 107 m ws2 lg' :: relA (.slice pp c.ps.length cp) (.slice pl c.ls.length cl) g ⟨c, F, pver Y, 3⟩ s' :: row (.slice (some ⟨rw_, ow, none⟩) ws1.length cw) 3 1 ws1.length (intC ws1) :: [blk W.heap.size (cfO c (.slice pp c.ps.length cp) (.slice pl c.ls.length cl))]) _ := Own.toMem' (ws := ws2) (l := []) (hB.under fun _ _ h => h.swap) rfl rfl rfl rfl
    obtain ⟨d0, d1, d2, d3, d4, d5, d6, d7⟩ := conf_cells (hM.pick 4 (by simp))
    have HN2 := Lib.hid (rdNew_any (w0 := W) (F0 := NoF) (⟨c, V, (N0 : Int) + 1, T⟩ : DP) HP.out (Hp.out.stp hM.toBelow) (Hl.out.stp hM.toBelow) hM)
    dsimp only at HN2
    clear hO hB hM HWd
    go_wp2_with fail
    generalize w12.heap.size = nb at HN2 ⊢
    refine HN2.out.mono ?_
    rintro e w13 ⟨rk, rfl, hO⟩
    have HD := HDP rk nb _ _ hO
    clear HN2 hO e0 HDP d0 d1 d2 d3 d4 d5 d6 d7
    go_wp2_with fail
    refine HD.out.mono ?_
    rintro e w14 ⟨n4, lg4, rfl, hO⟩
    obtain ⟨vw3, vl3, hM⟩ := hO.swap.mem
    obtain ⟨p3, c3, rfl⟩ := row_slice hM.swap
    have e0 : w14.cell? ⟨nb, 0, none⟩ = some (.slice p3 ws3.length c3) := hM.cell (i := 0) rfl
    have HLd := Lib.hid (pLaid_any (by have := HL3.out; omega) (by have := HL3.out; omega) hM.swap)
    clear hO hM HD
    go_wp2_with fail
    refine HLd.out.mono ?_
    rintro e w15 ⟨m2, rfl, hO⟩
    have hO : Own W NoF (memA 107 m2 ws3 [] :: row (.slice p3 ws3.length c3) 3 1 ws3.length (intC ws3) :: blk nb (.cells #[.slice p3 ws3.length c3, vl3] 43 (0, 0)) :: row vl3 104 5 lg4.length (logC lg4) :: rdA rk ⟨c, V, (N0 : Int) + 1, T⟩ sD :: memA 107 m ws2 lg' :: relA (.slice pp c.ps.length cp) (.slice pl c.ls.length cl) g ⟨c, F, pver Y, 3⟩ s' :: row (.slice (some ⟨rw_, ow, none⟩) ws1.length cw) 3 1 ws1.length (intC ws1) :: [blk W.heap.size (cfO c (.slice pp c.ps.length cp) (.slice pl c.ls.length cl))]) w15 := hO
    obtain ⟨d0, d1, d2, d3, d4, d5, d6, d7⟩ := conf_cells (hO.pick 8 (by simp))
    have HN := HRn 4 _ _ hO
    clear hO HLd e0 HRn
    go_wp2_with fail
    refine HN.out.mono ?_
    rintro e w16 ⟨g2, rfl, hO⟩
    have HP2 := hPl2 g2 m2 _ _ hO
    clear HN hO hPl2 d0 d1 d2 d3 d4 d5 d6 d7
    go_wp2_with fail
    refine HP2.out.mono ?_
    rintro e w17 ⟨k3, s3, ws4, lg5, rfl, hk3, hlk3, hI3, h63, hA3, hO⟩
    rw [List.nil_append] at hO
    obtain ⟨rfl, z5, z6, z7, rfl⟩ := hA3.none HN4.out
    obtain ⟨y1, y2, y3⟩ := rel_shut h63
    have A2 := fun w (h : Own W NoF (relA (.slice pp c.ps.length cp) (.slice pl c.ls.length cl) g2 ⟨c, F, pver Y, 4⟩ s3 :: memA 107 m2 ws4 lg5 :: row (.slice p3 ws4.length c3) 3 1 ws4.length (intC ws4) :: blk nb (.cells #[.slice p3 ws4.length c3, vl3] 43 (0, 0)) :: row vl3 104 5 lg4.length (logC lg4) :: rdA rk ⟨c, V, (N0 : Int) + 1, T⟩ sD :: memA 107 m ws2 lg' :: relA (.slice pp c.ps.length cp) (.slice pl c.ls.length cl) g ⟨c, F, pver Y, 3⟩ s' :: row (.slice (some ⟨rw_, ow, none⟩) ws1.length cw) 3 1 ws1.length (intC ws1) :: [blk W.heap.size (cfO c (.slice pp c.ps.length cp) (.slice pl c.ls.length cl))]) w) => relAns_any h
    have A1 := fun w (h : Own W NoF (relA (.slice pp c.ps.length cp) (.slice pl c.ls.length cl) g2 ⟨c, F, pver Y, 4⟩ s3 :: memA 107 m2 ws4 lg5 :: row (.slice p3 ws4.length c3) 3 1 ws4.length (intC ws4) :: blk nb (.cells #[.slice p3 ws4.length c3, vl3] 43 (0, 0)) :: row vl3 104 5 lg4.length (logC lg4) :: rdA rk ⟨c, V, (N0 : Int) + 1, T⟩ sD :: memA 107 m ws2 lg' :: relA (.slice pp c.ps.length cp) (.slice pl c.ls.length cl) g ⟨c, F, pver Y, 3⟩ s' :: row (.slice (some ⟨rw_, ow, none⟩) ws1.length cw) 3 1 ws1.length (intC ws1) :: [blk W.heap.size (cfO c (.slice pp c.ps.length cp) (.slice pl c.ls.length cl))]) w) => relAns_any (h.pick 7 (by simp))
    have A3 := fun w (h : Own W NoF (relA (.slice pp c.ps.length cp) (.slice pl c.ls.length cl) g2 ⟨c, F, pver Y, 4⟩ s3 :: memA 107 m2 ws4 lg5 :: row (.slice p3 ws4.length c3) 3 1 ws4.length (intC ws4) :: blk nb (.cells #[.slice p3 ws4.length c3, vl3] 43 (0, 0)) :: row vl3 104 5 lg4.length (logC lg4) :: rdA rk ⟨c, V, (N0 : Int) + 1, T⟩ sD :: memA 107 m ws2 lg' :: relA (.slice pp c.ps.length cp) (.slice pl c.ls.length cl) g ⟨c, F, pver Y, 3⟩ s' :: row (.slice (some ⟨rw_, ow, none⟩) ws1.length cw) 3 1 ws1.length (intC ws1) :: [blk W.heap.size (cfO c (.slice pp c.ps.length cp) (.slice pl c.ls.length cl))]) w) => rdAns_any (h.pick 5 (by simp))
    obtain ⟨x1, x2, x3⟩ := HZ.out
    obtain ⟨u1, u2, u3⟩ := HQ.out
    simp only [y1, y2, y3, z5, z6, z7] at A2
    simp only [x1, x2, x3] at A1
    simp only [u1, u3, if_true] at A3
    unfold ansV at A1 A2 A3
    have A1 := Lib.hid A1
    have A2 := Lib.hid A2
    have A3 := Lib.hid A3
    have g20 : (sD.an != hd) = true := by rw [bne_iff_ne]; exact u2
    have qa := ans_refl 0 ((N0 : Int) + 1) false (V : Int)
    have qb := ans_refl 5 0 false 0
    have qc := an13E 0 sD.an false sD.nd
    have qd := an13N 0 sD.an false sD.nd
    have e0 := Own.cell (hO.pick 3 (by simp)) (i := 0) rfl
    have HO := Lib.hid hO.drew
    clear hO y1 y2 y3 z5 z6 z7 x1 x2 x3 u1 u2 u3 hA3 h63 hI3 HQ HZ HN4 HP2
    generalize sD.an = AN at *
    generalize sD.nd = ND at *
    go_wp2_with fail
    try dsimp only [List.append]
    refine wp_region_held_drew (S := (fun w' => w'.cell? ⟨nb, 0, none⟩ = some (.slice p3 ws4.length c3))) (by kernel_rfl) ?_ (fun hHeld => ?_)
    · exact e0
    refine wpAnyH_takeD (i := 0) (d := 130) (v := ?v0) rfl rfl (by kernel_rfl) (by kernel_rfl) (by kernel_rfl) (fun _ _ _ h => h) (Or.inl ⟨by kernel_rfl, ?y0⟩) (by assumption) ?r0
    case y0 => (intro w hSw; (try dsimp only at hSw); first | (go_simp; done) | (go_simp; with_reducible rfl))
    try simp only [Act.put, List.setIfInBounds_toArray, List.set_cons_zero, List.set_cons_succ]
    refine wpAnyH_takeD (i := 1) (d := 131) (v := ?v1) rfl rfl (by kernel_rfl) (by kernel_rfl) (by kernel_rfl) (fun _ _ _ h => h) (Or.inl ⟨by kernel_rfl, ?y1⟩) (by assumption) ?r1
    case y1 => (intro w hSw; (try dsimp only at hSw); first | (go_simp; done) | (go_simp; with_reducible rfl))
    try simp only [Act.put, List.setIfInBounds_toArray, List.set_cons_zero, List.set_cons_succ]
    refine wpAnyH_takeD (i := 2) (d := 132) (v := ?v2) rfl rfl (by kernel_rfl) (by kernel_rfl) (by kernel_rfl) (fun _ _ _ h => h) (Or.inl ⟨by kernel_rfl, ?y2⟩) (by assumption) ?r2
    case y2 => (intro w hSw; (try dsimp only at hSw); first | (go_simp; done) | (go_simp; with_reducible rfl))
    try simp only [Act.put, List.setIfInBounds_toArray, List.set_cons_zero, List.set_cons_succ]
    refine wpAnyH_takeD (i := 3) (d := 133) (v := ?v3) rfl rfl (by kernel_rfl) (by kernel_rfl) (by kernel_rfl) (fun _ _ _ h => h) (Or.inl ⟨by kernel_rfl, ?y3⟩) (by assumption) ?r3
    case y3 => (intro w hSw; (try dsimp only at hSw); first | (go_simp; done) | (go_simp; with_reducible rfl))
    try simp only [Act.put, List.setIfInBounds_toArray, List.set_cons_zero, List.set_cons_succ]
    refine wpAnyH_takeD (i := 4) (d := 134) (v := ?v4) rfl rfl (by kernel_rfl) (by kernel_rfl) (by kernel_rfl) (fun _ _ _ h => h) (Or.inl ⟨by kernel_rfl, ?y4⟩) (by assumption) ?r4
    case y4 => (intro w hSw; (try dsimp only at hSw); first | (go_simp; done) | (go_simp; with_reducible rfl))
    try simp only [Act.put, List.setIfInBounds_toArray, List.set_cons_zero, List.set_cons_succ]
    refine wpAnyH_takeD (i := 5) (d := 135) (v := ?v5) rfl rfl (by kernel_rfl) (by kernel_rfl) (by kernel_rfl) (fun _ _ _ h => h) (Or.inl ⟨by kernel_rfl, ?y5⟩) (by assumption) ?r5
    case y5 => (intro w hSw; (try dsimp only at hSw); first | (go_simp; done) | (go_simp; with_reducible rfl))
    try simp only [Act.put, List.setIfInBounds_toArray, List.set_cons_zero, List.set_cons_succ]
    refine wpAnyH_takeD (i := 6) (d := 136) (v := ?v6) rfl rfl (by kernel_rfl) (by kernel_rfl) (by kernel_rfl) (fun _ _ _ h => h) (Or.inl ⟨by kernel_rfl, ?y6⟩) (by assumption) ?r6
    case y6 => (intro w hSw; (try dsimp only at hSw); first | (go_simp; done) | (go_simp; with_reducible rfl))
    try simp only [Act.put, List.setIfInBounds_toArray, List.set_cons_zero, List.set_cons_succ]
    refine wpAnyH_takeD (i := 7) (d := 137) (v := ?v7) rfl rfl (by kernel_rfl) (by kernel_rfl) (by kernel_rfl) (fun _ _ _ h => h) (Or.inl ⟨by kernel_rfl, ?y7⟩) (by assumption) ?r7
    case y7 => (intro w hSw; (try dsimp only at hSw); first | (go_simp; done) | (go_simp; with_reducible rfl))
    try simp only [Act.put, List.setIfInBounds_toArray, List.set_cons_zero, List.set_cons_succ]
    refine wpAnyH_takeD (i := 8) (d := 138) (v := ?v8) rfl rfl (by kernel_rfl) (by kernel_rfl) (by kernel_rfl) (fun _ _ _ h => h) (Or.inl ⟨by kernel_rfl, ?y8⟩) (by assumption) ?r8
    case y8 => (intro w hSw; (try dsimp only at hSw); first | (go_simp; done) | (go_simp; with_reducible rfl))
    try simp only [Act.put, List.setIfInBounds_toArray, List.set_cons_zero, List.set_cons_succ]
    refine wpAnyH_takeD (i := 9) (d := 139) (v := ?v9) rfl rfl (by kernel_rfl) (by kernel_rfl) (by kernel_rfl) (fun _ _ _ h => h) (Or.inl ⟨by kernel_rfl, ?y9⟩) (by assumption) ?r9
    case y9 => (intro w hSw; (try dsimp only at hSw); first | (go_simp; done) | (go_simp; with_reducible rfl))
    try simp only [Act.put, List.setIfInBounds_toArray, List.set_cons_zero, List.set_cons_succ]
    refine wpAnyH_takeD (i := 10) (d := 140) (v := ?v10) rfl rfl (by kernel_rfl) (by kernel_rfl) (by kernel_rfl) (fun _ _ _ h => h) (Or.inl ⟨by kernel_rfl, ?y10⟩) (by assumption) ?r10
    case y10 => (intro w hSw; (try dsimp only at hSw); first | (go_simp; done) | (go_simp; with_reducible rfl))
    try simp only [Act.put, List.setIfInBounds_toArray, List.set_cons_zero, List.set_cons_succ]
    refine wpAnyH_takeD (i := 11) (d := 141) (v := ?v11) rfl rfl (by kernel_rfl) (by kernel_rfl) (by kernel_rfl) (fun _ _ _ h => h) (Or.inl ⟨by kernel_rfl, ?y11⟩) (by assumption) ?r11
    case y11 => (intro w hSw; (try dsimp only at hSw); first | (go_simp; done) | (go_simp; with_reducible rfl))
    try simp only [Act.put, List.setIfInBounds_toArray, List.set_cons_zero, List.set_cons_succ]
    refine wpAnyH_takeD (i := 13) (d := 143) (v := ?v13) rfl rfl (by kernel_rfl) (by kernel_rfl) (by kernel_rfl) (fun _ _ _ h => h) (Or.inl ⟨by kernel_rfl, ?y13⟩) (by assumption) ?r13
    case y13 => (intro w hSw; (try dsimp only at hSw); first | (go_simp; done) | (go_simp; with_reducible rfl))
    try simp only [Act.put, List.setIfInBounds_toArray, List.set_cons_zero, List.set_cons_succ]
    refine wpAnyH_takeD (i := 14) (d := 144) (v := ?v14) rfl rfl (by kernel_rfl) (by kernel_rfl) (by kernel_rfl) (fun _ _ _ h => h) (Or.inl ⟨by kernel_rfl, ?y14⟩) (by assumption) ?r14
    case y14 => (intro w hSw; (try dsimp only at hSw); first | (go_simp; done) | (go_simp; with_reducible rfl))
    try simp only [Act.put, List.setIfInBounds_toArray, List.set_cons_zero, List.set_cons_succ]
    refine wpAnyH_takeD (i := 15) (d := 145) (v := ?v15) rfl rfl (by kernel_rfl) (by kernel_rfl) (by kernel_rfl) (fun _ _ _ h => h) (Or.inl ⟨by kernel_rfl, ?y15⟩) (by assumption) ?r15
    case y15 => (intro w hSw; (try dsimp only at hSw); first | (go_simp; done) | (go_simp; with_reducible rfl))
    try simp only [Act.put, List.setIfInBounds_toArray, List.set_cons_zero, List.set_cons_succ]
    refine wpAnyH_ready (rs := [12]) (by kernel_rfl) (by simp) ?_
    refine AllReadyH.cons rfl (fun K hK => ?_) AllReadyH.nil
    go_simp
    refine (A1.out _ HO.out).mono ?_
    rintro e w20 ⟨rfl, hB⟩
    have HO := Lib.hid (HO.out.below hB)
    have e0 := Stp.cell hB e0
    clear hB
    refine hK.out _ _ ?_ (fun hHeld => ?_)
    · exact e0
    clear hK K
    try simp only [Act.put, List.setIfInBounds_toArray, List.set_cons_zero, List.set_cons_succ]
    refine wpAnyH_takeD (i := 16) (d := 146) (v := ?v16) rfl rfl (by kernel_rfl) (by kernel_rfl) (by kernel_rfl) (fun _ _ _ h => h) (Or.inl ⟨by kernel_rfl, ?y16⟩) (by assumption) ?r16
    case y16 => (intro w hSw; (try dsimp only at hSw); first | (go_simp; done) | (go_simp; with_reducible rfl))
    try simp only [Act.put, List.setIfInBounds_toArray, List.set_cons_zero, List.set_cons_succ]
    refine wpAnyH_takeD (i := 17) (d := 147) (v := ?v17) rfl rfl (by kernel_rfl) (by kernel_rfl) (by kernel_rfl) (fun _ _ _ h => h) (Or.inl ⟨by kernel_rfl, ?y17⟩) (by assumption) ?r17
    case y17 => (intro w hSw; (try dsimp only at hSw); first | (go_simp; done) | (go_simp; with_reducible rfl))
    try simp only [Act.put, List.setIfInBounds_toArray, List.set_cons_zero, List.set_cons_succ]
    refine wpAnyH_takeD (i := 18) (d := 148) (v := ?v18) rfl rfl (by kernel_rfl) (by kernel_rfl) (by kernel_rfl) (fun _ _ _ h => h) (Or.inl ⟨by kernel_rfl, ?y18⟩) (by assumption) ?r18
    case y18 => (intro w hSw; (try dsimp only at hSw); first | (go_simp; done) | (go_simp; with_reducible rfl))
    try simp only [Act.put, List.setIfInBounds_toArray, List.set_cons_zero, List.set_cons_succ]
    refine wpAnyH_takeD (i := 19) (d := 149) (v := ?v19) rfl rfl (by kernel_rfl) (by kernel_rfl) (by kernel_rfl) (fun _ _ _ h => h) (Or.inl ⟨by kernel_rfl, ?y19⟩) (by assumption) ?r19
    case y19 => (intro w hSw; (try dsimp only at hSw); first | (go_simp; done) | (go_simp; with_reducible rfl))
    try simp only [Act.put, List.setIfInBounds_toArray, List.set_cons_zero, List.set_cons_succ]
    refine wpAnyH_ready (rs := [20]) (by kernel_rfl) (by simp) ?_
    refine AllReadyH.cons rfl (fun K hK => ?_) AllReadyH.nil
    go_simp
    refine (A3.out _ HO.out).mono ?_
    rintro e w21 ⟨rfl, hB⟩
    have HO := Lib.hid (HO.out.below hB)
    have e0 := Stp.cell hB e0
    clear hB
    refine hK.out _ _ ?_ (fun hHeld => ?_)
    · exact e0
    clear hK K
    try simp only [Act.put, List.setIfInBounds_toArray, List.set_cons_zero, List.set_cons_succ]
    refine wpAnyH_takeD (i := 21) (d := 151) (v := ?v21) rfl rfl (by kernel_rfl) (by kernel_rfl) (by kernel_rfl) (fun _ _ _ h => h) (Or.inl ⟨by kernel_rfl, ?y21⟩) (by assumption) ?r21
    case y21 => (intro w hSw; (try dsimp only at hSw); first | (go_simp; done) | (go_simp; with_reducible rfl))
    try simp only [Act.put, List.setIfInBounds_toArray, List.set_cons_zero, List.set_cons_succ]
    refine wpAnyH_takeD (i := 22) (d := 152) (v := ?v22) rfl rfl (by kernel_rfl) (by kernel_rfl) (by kernel_rfl) (fun _ _ _ h => h) (Or.inl ⟨by kernel_rfl, ?y22⟩) (by assumption) ?r22
    case y22 => (intro w hSw; (try dsimp only at hSw); first | (go_simp; done) | (go_simp; with_reducible rfl))
    try simp only [Act.put, List.setIfInBounds_toArray, List.set_cons_zero, List.set_cons_succ]
    refine wpAnyH_takeD (i := 23) (d := 153) (v := ?v23) rfl rfl (by kernel_rfl) (by kernel_rfl) (by kernel_rfl) (fun _ _ _ h => h) (Or.inl ⟨by kernel_rfl, ?y23⟩) (by assumption) ?r23
    case y23 => (intro w hSw; (try dsimp only at hSw); first | (go_simp; done) | (go_simp; with_reducible rfl))
    try simp only [Act.put, List.setIfInBounds_toArray, List.set_cons_zero, List.set_cons_succ]
    refine wpAnyH_takeD (i := 24) (d := 154) (v := ?v24) rfl rfl (by kernel_rfl) (by kernel_rfl) (by kernel_rfl) (fun _ _ _ h => h) (Or.inl ⟨by kernel_rfl, ?y24⟩) (by assumption) ?r24
    case y24 => (intro w hSw; (try dsimp only at hSw); first | (go_simp; done) | (go_simp; with_reducible rfl))
    try simp only [Act.put, List.setIfInBounds_toArray, List.set_cons_zero, List.set_cons_succ]
    refine wpAnyH_takeD (i := 25) (d := 155) (v := ?v25) rfl rfl (by kernel_rfl) (by kernel_rfl) (by kernel_rfl) (fun _ _ _ h => h) (Or.inl ⟨by kernel_rfl, ?y25⟩) (by assumption) ?r25
    case y25 => (intro w hSw; (try dsimp only at hSw); first | (go_simp; done) | (go_simp; with_reducible rfl))
    try simp only [Act.put, List.setIfInBounds_toArray, List.set_cons_zero, List.set_cons_succ]
    refine wpAnyH_takeD (i := 28) (d := 158) (v := ?v28) rfl rfl (by kernel_rfl) (by kernel_rfl) (by kernel_rfl) (fun _ _ _ h => h) (Or.inl ⟨by kernel_rfl, ?y28⟩) (by assumption) ?r28
    case y28 => (intro w hSw; (try dsimp only at hSw); first | (go_simp; done) | (go_simp; with_reducible rfl))
    try simp only [Act.put, List.setIfInBounds_toArray, List.set_cons_zero, List.set_cons_succ]
    refine wpAnyH_ready (rs := [26]) (by kernel_rfl) (by simp) ?_
    refine AllReadyH.cons rfl (fun K hK => ?_) AllReadyH.nil
    go_simp
    refine (A3.out _ HO.out).mono ?_
    rintro e w21 ⟨rfl, hB⟩
    have HO := Lib.hid (HO.out.below hB)
    have e0 := Stp.cell hB e0
    clear hB
    refine hK.out _ _ ?_ (fun hHeld => ?_)
    · exact e0
    clear hK K
    try simp only [Act.put, List.setIfInBounds_toArray, List.set_cons_zero, List.set_cons_succ]
    refine wpAnyH_takeD (i := 27) (d := 157) (v := ?v27) rfl rfl (by kernel_rfl) (by kernel_rfl) (by kernel_rfl) (fun _ _ _ h => h) (Or.inl ⟨by kernel_rfl, ?y27⟩) (by assumption) ?r27
    case y27 => (intro w hSw; (try dsimp only at hSw); first | (go_simp; done) | (go_simp; with_reducible rfl))
    try simp only [Act.put, List.setIfInBounds_toArray, List.set_cons_zero, List.set_cons_succ]
    refine wpAnyH_takeD (i := 29) (d := 159) (v := ?v29) rfl rfl (by kernel_rfl) (by kernel_rfl) (by kernel_rfl) (fun _ _ _ h => h) (Or.inl ⟨by kernel_rfl, ?y29⟩) (by assumption) ?r29
    case y29 => (intro w hSw; (try dsimp only at hSw); first | (go_simp; done) | (go_simp; with_reducible rfl))
    try simp only [Act.put, List.setIfInBounds_toArray, List.set_cons_zero, List.set_cons_succ]
    refine wpAnyH_takeD (i := 30) (d := 160) (v := ?v30) rfl rfl (by kernel_rfl) (by kernel_rfl) (by kernel_rfl) (fun _ _ _ h => h) (Or.inl ⟨by kernel_rfl, ?y30⟩) (by assumption) ?r30
    case y30 => (intro w hSw; (try dsimp only at hSw); first | (go_simp; done) | (go_simp; with_reducible rfl))
    try simp only [Act.put, List.setIfInBounds_toArray, List.set_cons_zero, List.set_cons_succ]
    refine wpAnyH_takeD (i := 31) (d := 161) (v := ?v31) rfl rfl (by kernel_rfl) (by kernel_rfl) (by kernel_rfl) (fun _ _ _ h => h) (Or.inl ⟨by kernel_rfl, ?y31⟩) (by assumption) ?r31
    case y31 => (intro w hSw; (try dsimp only at hSw); first | (go_simp; done) | (go_simp; with_reducible rfl))
    try simp only [Act.put, List.setIfInBounds_toArray, List.set_cons_zero, List.set_cons_succ]
    refine wpAnyH_takeD (i := 32) (d := 162) (v := ?v32) rfl rfl (by kernel_rfl) (by kernel_rfl) (by kernel_rfl) (fun _ _ _ h => h) (Or.inl ⟨by kernel_rfl, ?y32⟩) (by assumption) ?r32
    case y32 => (intro w hSw; (try dsimp only at hSw); first | (go_simp; done) | (go_simp; with_reducible rfl))
    try simp only [Act.put, List.setIfInBounds_toArray, List.set_cons_zero, List.set_cons_succ]
    refine wpAnyH_takeD (i := 33) (d := 163) (v := ?v33) rfl rfl (by kernel_rfl) (by kernel_rfl) (by kernel_rfl) (fun _ _ _ h => h) (Or.inl ⟨by kernel_rfl, ?y33⟩) (by assumption) ?r33
    case y33 => (intro w hSw; (try dsimp only at hSw); first | (go_simp; done) | (go_simp; with_reducible rfl))
    try simp only [Act.put, List.setIfInBounds_toArray, List.set_cons_zero, List.set_cons_succ]
    refine wpAnyH_takeD (i := 34) (d := 164) (v := ?v34) rfl rfl (by kernel_rfl) (by kernel_rfl) (by kernel_rfl) (fun _ _ _ h => h) (Or.inl ⟨by kernel_rfl, ?y34⟩) (by assumption) ?r34
    case y34 => (intro w hSw; (try dsimp only at hSw); first | (go_simp; done) | (go_simp; with_reducible rfl))
    try simp only [Act.put, List.setIfInBounds_toArray, List.set_cons_zero, List.set_cons_succ]
    refine wpAnyH_takeD (i := 35) (d := 165) (v := ?v35) rfl rfl (by kernel_rfl) (by kernel_rfl) (by kernel_rfl) (fun _ _ _ h => h) (Or.inl ⟨by kernel_rfl, ?y35⟩) (by assumption) ?r35
    case y35 => (intro w hSw; (try dsimp only at hSw); first | (go_simp; done) | (go_simp; with_reducible rfl))
    try simp only [Act.put, List.setIfInBounds_toArray, List.set_cons_zero, List.set_cons_succ]
    refine wpAnyH_takeD (i := 36) (d := 166) (v := ?v36) rfl rfl (by kernel_rfl) (by kernel_rfl) (by kernel_rfl) (fun _ _ _ h => h) (Or.inl ⟨by kernel_rfl, ?y36⟩) (by assumption) ?r36
    case y36 => (intro w hSw; (try dsimp only at hSw); first | (go_simp; done) | (go_simp; with_reducible rfl))
    try simp only [Act.put, List.setIfInBounds_toArray, List.set_cons_zero, List.set_cons_succ]
    refine wpAnyH_takeD (i := 38) (d := 168) (v := ?v38) rfl rfl (by kernel_rfl) (by kernel_rfl) (by kernel_rfl) (fun _ _ _ h => h) (Or.inl ⟨by kernel_rfl, ?y38⟩) (by assumption) ?r38
    case y38 => (intro w hSw; (try dsimp only at hSw); first | (go_simp; done) | (go_simp; with_reducible rfl))
    try simp only [Act.put, List.setIfInBounds_toArray, List.set_cons_zero, List.set_cons_succ]
    refine wpAnyH_ready (rs := [37]) (by kernel_rfl) (by simp) ?_
    refine AllReadyH.cons rfl (fun K hK => ?_) AllReadyH.nil
    go_simp
    refine (A2.out _ HO.out).mono ?_
    rintro e w20 ⟨rfl, hB⟩
    have HO := Lib.hid (HO.out.below hB)
    have e0 := Stp.cell hB e0
    clear hB
    refine hK.out _ _ ?_ (fun hHeld => ?_)
    · exact e0
    clear hK K
    try simp only [Act.put, List.setIfInBounds_toArray, List.set_cons_zero, List.set_cons_succ]
    refine wpAnyH_takeD (i := 39) (d := 169) (v := ?v39) rfl rfl (by kernel_rfl) (by kernel_rfl) (by kernel_rfl) (fun _ _ _ h => h) (Or.inl ⟨by kernel_rfl, ?y39⟩) (by assumption) ?r39
    case y39 => (intro w hSw; (try dsimp only at hSw); first | (go_simp; done) | (go_simp; with_reducible rfl))
    try simp only [Act.put, List.setIfInBounds_toArray, List.set_cons_zero, List.set_cons_succ]
    refine wpAnyH_takeD (i := 40) (d := 170) (v := ?v40) rfl rfl (by kernel_rfl) (by kernel_rfl) (by kernel_rfl) (fun _ _ _ h => h) (Or.inl ⟨by kernel_rfl, ?y40⟩) (by assumption) ?r40
    case y40 => (intro w hSw; (try dsimp only at hSw); first | (go_simp; done) | (go_simp; with_reducible rfl))
    try simp only [Act.put, List.setIfInBounds_toArray, List.set_cons_zero, List.set_cons_succ]
    refine wpAnyH_takeD (i := 41) (d := 171) (v := ?v41) rfl rfl (by kernel_rfl) (by kernel_rfl) (by kernel_rfl) (fun _ _ _ h => h) (Or.inl ⟨by kernel_rfl, ?y41⟩) (by assumption) ?r41
    case y41 => (intro w hSw; (try dsimp only at hSw); first | (go_simp; done) | (go_simp; with_reducible rfl))
    try simp only [Act.put, List.setIfInBounds_toArray, List.set_cons_zero, List.set_cons_succ]
    refine wpAnyH_takeD (i := 42) (d := 172) (v := ?v42) rfl rfl (by kernel_rfl) (by kernel_rfl) (by kernel_rfl) (fun _ _ _ h => h) (Or.inl ⟨by kernel_rfl, ?y42⟩) (by assumption) ?r42
    case y42 => (intro w hSw; (try dsimp only at hSw); first | (go_simp; done) | (go_simp; with_reducible rfl))
    try simp only [Act.put, List.setIfInBounds_toArray, List.set_cons_zero, List.set_cons_succ]
    refine wpAnyH_takeD (i := 44) (d := 174) (v := ?v44) rfl rfl (by kernel_rfl) (by kernel_rfl) (by kernel_rfl) (fun _ _ _ h => h) (Or.inl ⟨by kernel_rfl, ?y44⟩) (by assumption) ?r44
    case y44 => (intro w hSw; (try dsimp only at hSw); first | (go_simp; done) | (go_simp; with_reducible rfl))
    try simp only [Act.put, List.setIfInBounds_toArray, List.set_cons_zero, List.set_cons_succ]
    refine wpAnyH_takeD (i := 45) (d := 175) (v := ?v45) rfl rfl (by kernel_rfl) (by kernel_rfl) (by kernel_rfl) (fun _ _ _ h => h) (Or.inl ⟨by kernel_rfl, ?y45⟩) (by assumption) ?r45
    case y45 => (intro w hSw; (try dsimp only at hSw); first | (go_simp; done) | (go_simp; with_reducible rfl))
    try simp only [Act.put, List.setIfInBounds_toArray, List.set_cons_zero, List.set_cons_succ]
    refine wpAnyH_takeD (i := 46) (d := 176) (v := ?v46) rfl rfl (by kernel_rfl) (by kernel_rfl) (by kernel_rfl) (fun _ _ _ h => h) (Or.inl ⟨by kernel_rfl, ?y46⟩) (by assumption) ?r46
    case y46 => (intro w hSw; (try dsimp only at hSw); first | (go_simp; done) | (go_simp; with_reducible rfl))
    try simp only [Act.put, List.setIfInBounds_toArray, List.set_cons_zero, List.set_cons_succ]
    refine wpAnyH_takeD (i := 47) (d := 177) (v := ?v47) rfl rfl (by kernel_rfl) (by kernel_rfl) (by kernel_rfl) (fun _ _ _ h => h) (Or.inl ⟨by kernel_rfl, ?y47⟩) (by assumption) ?r47
    case y47 => (intro w hSw; (try dsimp only at hSw); first | (go_simp; done) | (go_simp; with_reducible rfl))
    try simp only [Act.put, List.setIfInBounds_toArray, List.set_cons_zero, List.set_cons_succ]
    refine wpAnyH_ready (rs := [43]) (by kernel_rfl) (by simp) ?_
    refine AllReadyH.cons rfl (fun K hK => ?_) AllReadyH.nil
    go_simp
    refine (Words_b (by have := HL3.out; omega) HO.out.swap).mono ?_
    rintro e w22 ⟨v14, rfl, hA⟩
    have hB := hA.toBelow
    have HO := Lib.hid (HO.out.below hB)
    have e0 := Stp.cell hB e0
    have H11 := Lib.hid (SameInts_yes hA.intsAt (HO.out.pick 2 (by simp)).intsAt (by have := HL3.out; omega))
    clear hA hB
    refine hK.out _ _ ?_ (fun hHeld => ?_)
    · exact e0
    clear hK K
    try simp only [Act.put, List.setIfInBounds_toArray, List.set_cons_zero, List.set_cons_succ]
    refine wpAnyH_ready (rs := [48]) (by kernel_rfl) (by simp) ?_
    refine AllReadyH.cons rfl (fun K hK => ?_) AllReadyH.nil
    go_simp
    refine H11.out.mono ?_
    rintro e w23 ⟨rfl, hD⟩
    have hB := hD.below
    have HO := Lib.hid (HO.out.below hB)
    have e0 := Stp.cell hB e0
    clear hB hD
    refine hK.out _ _ ?_ (fun hHeld => ?_)
    · exact e0
    clear hK K
    try simp only [Act.put, List.setIfInBounds_toArray, List.set_cons_zero, List.set_cons_succ]
    refine wpAnyH_takeD (i := 49) (d := 179) (v := ?v49) rfl rfl (by kernel_rfl) (by kernel_rfl) (by kernel_rfl) (fun _ _ _ h => h) (Or.inl ⟨by kernel_rfl, ?y49⟩) (by assumption) ?r49
    case y49 => (intro w hSw; (try dsimp only at hSw); first | (go_simp; done) | (go_simp; with_reducible rfl))
    try simp only [Act.put, List.setIfInBounds_toArray, List.set_cons_zero, List.set_cons_succ]
    refine wpAnyH_takeD (i := 50) (d := 8) (v := ?v50) rfl rfl (by kernel_rfl) (by kernel_rfl) (by kernel_rfl) (fun _ _ _ h => h) (Or.inl ⟨by kernel_rfl, ?y50⟩) (by assumption) ?r50
    case y50 => (intro w hSw; (try dsimp only at hSw); first | (go_simp; done) | (go_simp; with_reducible rfl))
    try simp only [Act.put, List.setIfInBounds_toArray, List.set_cons_zero, List.set_cons_succ]
    refine wpAnyH_done (by kernel_rfl) ?_ _
    have HB := Lib.hid HO.out.toBelow
    clear HO
    go_wp2_with fail
    go_ret
    exact ⟨rfl, HB.out⟩
  · have hs2 : (stS Y != 2) = true := by rw [bne_iff_ne]; exact hs
    have HB := Lib.hid HO2.out.toBelow
    clear HAg HRn hs HO2
    go_wp2_with fail
    go_ret
    exact ⟨rfl, HB.out⟩
theorem ReleaseAgain_calls (W : World) (c : Cf) (vp vl : Value) (hw : Wide c) (hp : IntsAt W .i64 vp c.ps) (hl : IntsAt W .i64 vl c.ls) (lf : Int) (lf0 : IntKind.u8.min ≤ lf) (lf1 : lf ≤ IntKind.u8.max) (n : Int) (n0 : IntKind.u32.min ≤ n) (n1 : n ≤ IntKind.u32.max) (th : Int) (th0 : IntKind.u16.min ≤ th) (th1 : th ≤ IntKind.u16.max) :
    Calls Tryz.prog 6 #[cfV c vp vl, .int .u8 lf, .int .u32 n, .int .u16 th] W fun e w' => e = .returned (.bool true) ∧ Below W.heap.size W w' := by
  by_cases h : c.ps.length ≤ 100 ∧ c.ls.length ≤ 100
  · by_cases hr : c.Rt
    · exact ReleaseAgain_main W c (hw.wf h.1 h.2) hr hp hl lf lf0 lf1 n n0 n1 th th0 th1
    · exact ReleaseAgain_wrong W c hw hp hl h hr lf lf0 lf1 n n0 n1 th th0 th1
  · exact ReleaseAgain_great W c hw hp hl h lf lf0 lf1 n n0 n1 th th0 th1
end Go.Proofs.YtjfjjmlocgmicaaGreat
