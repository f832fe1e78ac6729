/- UsageQuiet. Written by tools/gen_rel*.py. -/
import Derived.Test.YtlpdafldabfiaaaGreatC3
import Derived.Test.YtlpdafldabfiaaaGreatC10
import Derived.Test.YtlpdafldabfiaaaGreatC20
import Derived.Test.YtlpdafldabfiaaaGreatC21
import Derived.Test.YtlpdafldabfiaaaGreatC34
import Derived.Test.YtlpdafldabfiaaaGreatC42
import Derived.Test.YtlpdafldabfiaaaGreatC44
import Derived.Test.YtlpdafldabfiaaaGreatC45
import Derived.Test.YtlpdafldabfiaaaGreatC48
import Derived.Lib.QuietBelow
import Derived.Deep.RegionWith
import Derived.StillTailTactics
namespace Go.Proofs.YtlpdafldabfiaaaGreat
open Go.ChangeShapes Go.WideShapes Go.ChangeAt Go.RowKit Go.Shelf
set_option linter.unusedVariables false
set_option linter.unusedSimpArgs false
set_option maxRecDepth 100000
def liS (c : Cf) (ws : List Int) (k : Nat) : Int := sK (fun k => if livB c ws k = true then 1 else 0) k
theorem liS_bd (c : Cf) (ws : List Int) : ∀ k, 0 ≤ liS c ws k ∧ liS c ws k ≤ k
  | 0 => by unfold liS; rw [sK]; omega
  | k + 1 => by
    have := liS_bd c ws k
    unfold liS at this ⊢
    rw [sK]; split <;> omega
theorem liS_succ (c : Cf) (ws : List Int) (k : Nat) : liS c ws (k + 1) = liS c ws k + if livB c ws k = true then 1 else 0 := rfl
theorem noav_wf {x : Ak} (h : x.Wf) : (⟨x.c, x.lf, x.n, x.th, x.bs, [], x.l⟩ : Ak).Wf := ⟨h.d0, h.d1, h.n0, h.n1, h.t0, h.t1, h.bm, fun i hi => by simp at hi, by unfold maxLen; simp, h.l, h.lm⟩
theorem UsageQuiet_bad (W : World) (x : Ak) {vp vl vb va vk : Value} (H : AkAt W x vp vl vb va vk) (hg : ¬ GoodA x) (vq : Value) (q : List Int) (ql : q.length ≤ maxLen) (qw : ∀ n ∈ q, (Lit.int .u16 n).wf = true) (qv : IntsAt W .u16 vq q) :
    Calls Tryz.prog 5 #[akV x vp vl vb va vk, vq] W fun e w' => e = .returned (.bool true) ∧ Below W.heap.size W w' := by
  obtain ⟨pp, cp, rfl⟩ := H.p.slice
  obtain ⟨pl, cl, rfl⟩ := H.l.slice
  obtain ⟨pq, cq, rfl⟩ := qv.slice
  have h0 := (Own.start W).new (akO x (.slice pp x.c.ps.length cp) (.slice pl x.c.ls.length cl) vb va vk)
  have Hh := Lib.hid (head14_any h0)
  have HG := fun w' (hb : Stp W w') => Lib.hid (aGood_no (w := w') (H.stp hb) hg)
  clear h0 hg
  unfold akV at HG ⊢
  clear H
  go_enter Tryz.func5, Tryz.ntmps5
  go_wp2_with fail
  refine Hh.out.mono ?_
  rintro e w1 ⟨rfl, hO⟩
  obtain ⟨d0, d1, d2, d3, d4, d5, d6, d7, d8, d9, d10, d11, d12, d13⟩ := akCells hO
  go_wp2_with fail
  refine (HG _ hO.toBelow).out.mono ?_
  rintro e w2 ⟨rfl, hB⟩
  have hO := hO.below hB
  clear hB HG Hh d0 d1 d2 d3 d4 d5 d6 d7 d8 d9 d10 d11 d12 d13
  have HB := Lib.hid hO.toBelow
  clear hO
  go_wp2_with fail
  go_ret
  exact ⟨rfl, HB.out⟩
theorem UsageQuiet_long (W : World) (x : Ak) {vp vl vb va vk : Value} (H : AkAt W x vp vl vb va vk) (hg : GoodA x) (vq : Value) (q : List Int) (ql : q.length ≤ maxLen) (qw : ∀ n ∈ q, (Lit.int .u16 n).wf = true) (qv : IntsAt W .u16 vq q) (hq : 20 < q.length) :
    Calls Tryz.prog 5 #[akV x vp vl vb va vk, vq] W fun e w' => e = .returned (.bool true) ∧ Below W.heap.size W w' := by
  obtain ⟨pp, cp, rfl⟩ := H.p.slice
  obtain ⟨pl, cl, rfl⟩ := H.l.slice
  obtain ⟨pq, cq, rfl⟩ := qv.slice
  have h0 := (Own.start W).new (akO x (.slice pp x.c.ps.length cp) (.slice pl x.c.ls.length cl) vb va vk)
  have Hh := Lib.hid (head14_any h0)
  have HG := fun w' (hb : Stp W w') => Lib.hid (aGood_yes (w := w') (H.stp hb) hg)
  have g1 : (20 : Int) < (q.length : Int) := by omega
  clear h0 hg
  unfold akV at HG ⊢
  clear H
  go_enter Tryz.func5, Tryz.ntmps5
  go_wp2_with fail
  refine Hh.out.mono ?_
  rintro e w1 ⟨rfl, hO⟩
  obtain ⟨d0, d1, d2, d3, d4, d5, d6, d7, d8, d9, d10, d11, d12, d13⟩ := akCells hO
  go_wp2_with fail
  refine (HG _ hO.toBelow).out.mono ?_
  rintro e w2 ⟨rfl, hB⟩
  have hO := hO.below hB
  clear hB HG Hh d0 d1 d2 d3 d4 d5 d6 d7 d8 d9 d10 d11 d12 d13
  have HB := Lib.hid hO.toBelow
  clear hO
  go_wp2_with fail
  go_ret
  exact ⟨rfl, HB.out⟩
set_option maxHeartbeats 20000000 in
theorem UsageQuiet_in (W : World) (x : Ak) {vp vl vb va vk : Value} (H : AkAt W x vp vl vb (.slice none 0 0) vk) (hav : x.av = []) (HG : ∀ w', Stp W w' → Hid (Calls Tryz.prog 30 #[akV x vp vl vb va vk] w' fun e w'' => e = .returned (.bool true) ∧ Below w'.heap.size w' w'')) (hg : GoodA x) (vq : Value) (q : List Int) (ql : q.length ≤ maxLen) (qw : ∀ n ∈ q, (Lit.int .u16 n).wf = true) (qv : IntsAt W .u16 vq q) (hq : ¬ 20 < q.length) :
    Calls Tryz.prog 5 #[akV x vp vl vb va vk, vq] W fun e w' => e = .returned (.bool true) ∧ Below W.heap.size W w' := by
  obtain ⟨pp, cp, rfl⟩ := H.p.slice
  obtain ⟨pl, cl, rfl⟩ := H.l.slice
  obtain ⟨pq, cq, rfl⟩ := qv.slice
  have h0 := (Own.start W).new (akO x (.slice pp x.c.ps.length cp) (.slice pl x.c.ls.length cl) vb va vk)
  have Hh := Lib.hid (head14_any h0)
  have hr := hg.rt
  have hwfx := H.wf
  have hq20 : ¬ (20 : Int) < (q.length : Int) := by omega
  have hqu : ∀ y ∈ q, 0 ≤ y ∧ y ≤ 65535 := fun y hy => (show (0 : Int) ≤ y ∧ y ≤ 65535 from law_wf (qw y hy))
  have HWd := fun w L (h : Own W NoF L w) => Lib.hid (relWords_any H hg qv hqu (by omega) h)
  have HOf := fun w' (hb : Stp W w') => Lib.hid (aOf_any (H.stp hb) hr)
  have hnr : nR q ≤ 4 := by unfold nR; omega
  have HWR := Lib.hid (wr_any (l := q) hr hwfx (nR q) hnr)
  have HNR := Lib.hid hnr
  have HCm := Lib.hid (wd_calm (l := q) hr hwfx hav (nR q) hnr)
  have HEv := Lib.hid (fun u hu => wd_even (l := q) hr hwfx u hu (nR q) hnr)
  have Hp := Lib.hid H.p
  have Hl := Lib.hid H.l
  have Hr := Lib.hid hr
  have Hwx := Lib.hid hwfx
  have hn0 := hr.n0
  have hn1 := hr.n1
  clear h0 hg hr hwfx hqu qw qv ql hav hnr
  unfold akV at HG HWd HOf ⊢
  clear H
  go_enter Tryz.func5, Tryz.ntmps5
  go_wp2_with fail
  refine Hh.out.mono ?_
  rintro e w1 ⟨rfl, hO⟩
  obtain ⟨d0, d1, d2, d3, d4, d5, d6, d7, d8, d9, d10, d11, d12, d13⟩ := akCells hO
  go_wp2_with fail
  refine (HG _ hO.toBelow).out.mono ?_
  rintro e w2 ⟨rfl, hB⟩
  have hO := hO.below hB
  clear hB HG Hh d0 d1 d2 d3 d4 d5 d6 d7 d8 d9 d10 d11 d12 d13
  have f12 : w2.frozen? ⟨W.heap.size, 12, none⟩ = false := by unfold akO at hO; exact hO.unfrozen
  have hO2 : Own W NoF [blk W.heap.size (akO x (.slice pp x.c.ps.length cp) (.slice pl x.c.ls.length cl) vb (.slice none 0 0) vk)] (w2.setCell ⟨W.heap.size, 12, none⟩ (.slice none 0 0)) := by unfold akO at hO ⊢; exact hO.set 12 (.slice none 0 0)
  obtain ⟨d0, d1, d2, d3, d4, d5, d6, d7, d8, d9, d10, d11, d12, d13⟩ := akCells hO
  obtain ⟨z0, z1, z2, z3, z4, z5, z6, z7, z8, z9, z10, z11, z12, z13⟩ := akCells hO2
  have HO2 := Lib.hid hO2
  have HWd2 := HWd _ _ hO2
  generalize nR q = NR at *
  generalize hWS : wdR x q NR = ws at *
  generalize hdR x q NR = hs at *
  have HWS := Lib.hid hWS
  clear hWS hO hO2
  go_wp2_with fail
  refine HWd2.out.mono ?_
  rintro e w4 ⟨vw, vh, rfl, hO⟩
  clear HWd HWd2 HO2 f12 z0 z1 z2 z3 z4 z5 z6 z7 z8 z9 z10 z11 z12 z13 d0 d1 d2 d3 d4 d5 d6 d7 d8 d9 d10 d11 d12 d13
  obtain ⟨B0, ts, hB0, hB1, hWR⟩ : ∃ (B0 : Int) (ts : List Nat), B0 ≤ 9000000000000 ∧ 1099511627776 ≤ B0 ∧ WR x.c (akW x) B0 ts hs ws := by
    obtain ⟨ts, h⟩ := HWR.out
    exact ⟨_, ts, by have := HNR.out; omega, by omega, h⟩
  have hlen : 2 ≤ ws.length ∧ ws.length ≤ 400 := by
    have h1 := sizeN_bd Hr.out
    have h2 := (ti_nat Hr.out).2.1
    have h3 := hWR.w.len
    unfold sizeN at h1 h3
    omega
  have HLn := Lib.hid hWR.w.len
  rw [← HLn.out] at hO
  obtain ⟨pw, cw, rfl⟩ := row_slice hO
  obtain ⟨ph, ch, rfl⟩ := row_slice hO.swap
  clear HWR HNR
  have HWR := Lib.hid hWR
  clear hWR
  have HLd := Lib.hid (pLaid_any (by omega) (by omega) hO)
  clear hO
  go_wp2_with fail
  refine HLd.out.mono ?_
  rintro e w5 ⟨m, rfl, hO⟩
  clear HLd
  have HO := Lib.hid hO
  have hti := ti_nat Hr.out
  have Hti := Lib.hid hti.1
  have Ht16 := Lib.hid hti.2
  have HLc := Lib.hid (liS_bd x.c ws)
  have HLs := Lib.hid (liS_succ x.c ws)
  have HWf := Lib.hid HWR.out.w.wf
  have HU := fun (u : Nat) (vr : Value) w' (hv : IntsAt w' .i64 vr ws) (hs : Stp W w') => Lib.hid (uUsed_any (w := w') (vr := vr) (pp := pp) (cp := cp) (pl := pl) (cl := cl) Hr.out HLn.out HWf.out u hv (Hp.out.stp hs) (Hl.out.stp hs))
  have HH := fun (u : Nat) hu (vr : Value) w' (hv : IntsAt w' .i64 vr ws) (hs : Stp W w') => Lib.hid (uHeld_any (w := w') (vr := vr) (pp := pp) (cp := cp) (pl := pl) (cl := cl) Hr.out HLn.out HWf.out u hu hv (Hp.out.stp hs) (Hl.out.stp hs))
  have HV := fun (k : Nat) hk (vr : Value) w' (hv : IntsAt w' .i64 vr ws) => Lib.hid (uLive_any (w := w') (vr := vr) (pp := pp) (cp := cp) (pl := pl) (cl := cl) Hr.out HLn.out HWf.out k hk hv)
  have HC := fun (u : Nat) hu w L (h : Own W NoF L w) => Lib.hid (uCount_any (pp := pp) (cp := cp) (pl := pl) (cl := cl) Hr.out u hu h)
  have HTr := fun (u : Nat) hu w => Lib.hid (uCtr_any (pp := pp) (cp := cp) (pl := pl) (cl := cl) Hr.out u hu w)
  have HSm := fun (u : Nat) hu w L lg (h : Own W NoF (memA 107 m ws lg :: L) w) => Lib.hid (uSum_any Hr.out HWR.out.w u hu h)
  have HSe := Lib.hid (fun u hu => Calm.count Hr.out HCm.out u hu)
  have HHd := Lib.hid (show ∀ u, u < x.c.ps.length → heldW x.c ws u = 0 from fun u hu => by have := HCm.out.held u hu; unfold heldW; rw [show ws.getD (limN x.c u) 0 - leftU x.c u ws - usedU x.c ws u = 0 by omega]; unfold wrap64; omega)
  have HCt := Lib.hid (fun u hu => ctN_bd (u := u) Hr.out hu)
  have HWs := Lib.hid (show ∀ u, u < x.c.ps.length → WS (ctN x.c u) x.c.st.toNat ws from fun u hu => by
    have h1 := ctN_bd Hr.out hu
    have h2 := st_nat Hr.out
    have h3 := HLn.out
    have hlu := limN_lt x.c hu
    have h4 := sizeN_bd Hr.out
    refine ⟨h2.2.1, h2.2.2, by omega, ?_, by omega, HWf.out⟩
    rw [h3]; unfold ctN sizeN; omega)
  have Hst := Lib.hid (st_nat Hr.out)
  have Hre := Lib.hid Hr.out.re
  have HCo := Lib.hid (show liS x.c ws x.c.ti.toNat = (hs.length : Int) from WR.count HWR.out)
  obtain ⟨K, hK⟩ : ∃ K, K = x.c.ti.toNat := ⟨_, rfl⟩
  rw [← hK] at Hti Ht16 HV HCo
  clear hK
  clear hO hti
  go_wp2_with fail
  go_loopw [9, 10, 11, 12] (fun v9 v10 v11 v12 wr => ∃ (u : Nat) (lg : List Acc), u ≤ x.c.ps.length ∧ v9 = .int .i64 u ∧ lg.length ≤ 20 * u ∧ Own W NoF (memA 107 m ws lg :: row (.slice pw ws.length cw) 3 1 ws.length (intC ws) :: row (.slice ph hs.length ch) 3 1 hs.length (intC hs) :: [blk W.heap.size (akO x (.slice pp x.c.ps.length cp) (.slice pl x.c.ls.length cl) vb (.slice none 0 0) vk)]) wr) (fun v9 v10 v11 v12 _ => x.c.ps.length - (intOf v9).toNat)
  case atStart => exact ⟨0, [], Nat.zero_le _, rfl, by simp, HO.out⟩
  case round =>
    obtain ⟨u, lg, hu, rfl, hlg, hO⟩ := hrel
    clear HO
    obtain ⟨d0, d1, d2, d3, d4, d5, d6, d7, d8, d9, d10, d11, d12, d13⟩ := akCells hO.p3
    by_cases hlu : u < x.c.ps.length
    · have g3 : (u : Int) < (x.c.ps.length : Int) := by omega
      have HC1 := HC u hlu _ _ hO
      clear hO HC
      go_wp2_with fail
      refine HC1.out.mono ?_
      rintro e w7 ⟨g, rfl, hO⟩
      have hre := Hre.out
      unfold Bd at hre
      have hst := Hst.out
      have HPl := Lib.hid (cnt_calm g m (ctN x.c u) x.c.st.toNat x.c.re.toNat 500 (by omega) (by omega) (by omega) (by decide) (HWs.out u hlu) (HEv.out u hlu) (by omega) hO)
      clear HC1 hO hre hst d0 d1 d2 d3 d4 d5 d6 d7 d8 d9 d10 d11 d12 d13
      go_wp2_with fail
      refine HPl.out.mono ?_
      rintro e w8 ⟨rfl, lg2, hl2, hO⟩
      have hS1 := HSe.out u hlu
      have e5 : sumZ (ctP x.c u 0) ws = ws.getD (ctN x.c u) 0 + strN (ctN x.c u) ws x.c.st.toNat := rfl
      rw [← e5, hS1] at hO
      have hll : lg2.length ≤ 20 * (u + 1) := by have := Hst.out; omega
      clear HPl hl2 e5
      have HOz := Lib.hid hO
      have hT := hO.toBelow
      have hI := hO.p2.intsAt
      obtain ⟨v1, v2, hF⟩ := Own.fin hO
      obtain ⟨d0, d1, d2, d3, d4, d5, d6, d7, d8, d9, d10, d11, d12, d13⟩ := akCells hO.p4
      have hM : Own W NoF (memA 107 m ws lg2 :: _) w8 := hO.swap
      have C1 := fun d os => Calls.regrown_of (snAns_any (hF.below (below_regrown w8 d os)))
      have C2 := fun d os => Calls.regrown_of (HU u _ (Go.Sort.grow (redrawn w8 d) os) (hI.below (below_regrown _ d os)) (Stp.trans hT (below_regrown _ d os))).out
      have C3 := fun d os => Calls.regrown_of (HH u hlu _ (Go.Sort.grow (redrawn w8 d) os) (hI.below (below_regrown _ d os)) (Stp.trans hT (below_regrown _ d os))).out
      have C4 := fun d os => Calls.regrown_of (HTr u hlu (Go.Sort.grow (redrawn w8 d) os)).out
      have C5 := fun d os => Calls.regrown_of (HSm u hlu (Go.Sort.grow (redrawn w8 d) os) _ _ (hM.below (below_regrown _ d os))).out
      rw [HHd.out u hlu] at C3
      rw [hS1] at C5
      unfold ansV at C1
      have q1 := ans_differ (usedU x.c ws u) true
      generalize usedU x.c ws u = UU at *
      generalize ctN x.c u = CT at *
      have n4 : (UU != UU) = false := by simp
      have n5 : ((0 : Int) != 0) = false := by decide
      have k0 := cell_regrown d0
      have k1 := cell_regrown d1
      have k2 := cell_regrown d2
      have k3 := cell_regrown d3
      have k4 := cell_regrown d4
      have k5 := cell_regrown d5
      have k6 := cell_regrown d6
      have k7 := cell_regrown d7
      clear hO hT hI hF hM hS1 HU HH HTr HSm d0 d1 d2 d3 d4 d5 d6 d7 d8 d9 d10 d11 d12 d13
      go_wp2_with fail
      try dsimp only [List.append]
      refine wp_region_quiet_below (by kernel_rfl) (by kernel_rfl) ?_
      repeat (go_big_quiet_step (first | (go_at_call 25; with_reducible exact C1 _ _) | (go_at_call 15; with_reducible exact C2 _ _) | (go_at_call 17; with_reducible exact C3 _ _) | (go_at_call 33; with_reducible exact C4 _ _) | (go_at_call 32; with_reducible exact C5 _ _)))
      refine wpQuiet_nil ?_
      intro _ hw'
      obtain ⟨⟨dq, osq⟩, hw''⟩ := hw'
      subst hw''
      have HO2 := Lib.hid (HOz.out.below (below_regrown _ dq osq)).drop
      clear k0 k1 k2 k3 k4 k5 k6 k7 C1 C2 C3 C4 C5 HOz n4 n5 q1
      go_wp2_with fail
      go_roundw
      case rel => exact ⟨u + 1, lg2, by omega, by go_num, hll, HO2.out⟩
      case measure => simp [intOf]; omega
    · obtain rfl : u = x.c.ps.length := by omega
      have HO := Lib.hid hO.drop
      have hd5 := d5
      clear hO HC HU HH HTr HSm HSe HHd HCt HWs HEv hlg
      go_wp2_with fail
      clear hd5 d0 d1 d2 d3 d4 d5 d6 d7 d8 d9 d10 d11 d12 d13
      go_loopw [13, 14, 15, 16, 17] (fun v13 v14 v15 v16 v17 wr => ∃ k : Nat, k ≤ K ∧ v13 = .int .i64 (liS x.c ws k) ∧ v14 = .int .i64 k ∧ Own W NoF (row (.slice pw ws.length cw) 3 1 ws.length (intC ws) :: row (.slice ph hs.length ch) 3 1 hs.length (intC hs) :: [blk W.heap.size (akO x (.slice pp x.c.ps.length cp) (.slice pl x.c.ls.length cl) vb (.slice none 0 0) vk)]) wr) (fun v13 v14 v15 v16 v17 _ => K - (intOf v14).toNat)
      case atStart => exact ⟨0, Nat.zero_le _, rfl, rfl, HO.out⟩
      case round =>
        obtain ⟨k, hk, rfl, rfl, hO⟩ := hrel
        clear HO
        obtain ⟨d0, d1, d2, d3, d4, d5, d6, d7, d8, d9, d10, d11, d12, d13⟩ := akCells hO.p2
        by_cases hlk : k < K
        · have g3 : (k : Int) < x.c.ti := by have := Hti.out; omega
          have hK16 := Ht16.out.2
          have HV1 := HV k hlk _ _ hO.intsAt
          have HO := Lib.hid hO
          have hb1 := HLc.out k
          have hs1 := HLs.out k
          have hwr : IntKind.i64.wrap (liS x.c ws k + 1) = liS x.c ws k + 1 := IntWalk.i64_in _ (by have := Ht16.out; omega)
          generalize hL1 : liS x.c ws (k + 1) = L1 at *
          have HL1 := Lib.hid hL1
          generalize liS x.c ws k = L0 at *
          generalize livB x.c ws k = LB at *
          generalize livV x.c ws k = LV at *
          generalize livN x.c ws k = LN at *
          clear hO HV hb1 hL1 HLs HLc HCo
          cases LB with
          | true =>
            have Hs1 := Lib.hid (show L1 = L0 + 1 from hs1)
            clear hs1
            go_wp2_with fail
            refine HV1.out.mono ?_
            rintro e w9 ⟨rfl, hB⟩
            have HO2 := Lib.hid (HO.out.below hB)
            clear HO hB HV1 d0 d1 d2 d3 d4 d5 d6 d7 d8 d9 d10 d11 d12 d13
            go_wp2_with fail
            go_roundw
            case rel => exact ⟨k + 1, by omega, by rw [HL1.out, Hs1.out], by go_num, HO2.out⟩
            case measure => simp [intOf]; omega
          | false =>
            have Hs1 := Lib.hid (show L1 = L0 + 0 from hs1)
            clear hs1
            go_wp2_with fail
            refine HV1.out.mono ?_
            rintro e w9 ⟨rfl, hB⟩
            have HO2 := Lib.hid (HO.out.below hB)
            clear HO hB HV1 d0 d1 d2 d3 d4 d5 d6 d7 d8 d9 d10 d11 d12 d13
            go_wp2_with fail
            go_roundw
            case rel => exact ⟨k + 1, by omega, by rw [HL1.out, Hs1.out, Int.add_zero], by go_num, HO2.out⟩
            case measure => simp [intOf]; omega
        · have hkk : k = K := by omega
          subst hkk
          have g3 : ¬ (k : Int) < x.c.ti := by have := Hti.out; omega
          have HB := Lib.hid hO.toBelow
          rw [HCo.out]
          clear hO HV HLs HLc HCo
          go_wp2_with fail
          go_ret
          exact ⟨rfl, HB.out⟩
theorem UsageQuiet_main (W : World) (x : Ak) {vp vl vb va vk : Value} (H : AkAt W x vp vl vb va vk) (hg : GoodA x) (vq : Value) (q : List Int) (ql : q.length ≤ maxLen) (qw : ∀ n ∈ q, (Lit.int .u16 n).wf = true) (qv : IntsAt W .u16 vq q) (hq : ¬ 20 < q.length) :
    Calls Tryz.prog 5 #[akV x vp vl vb va vk, vq] W fun e w' => e = .returned (.bool true) ∧ Below W.heap.size W w' := by
  have HG := fun w' (hb : Stp W w') => Lib.hid (aGood_yes (w := w') (H.stp hb) hg)
  exact UsageQuiet_in W ⟨x.c, x.lf, x.n, x.th, x.bs, [], x.l⟩ (va := va) ⟨H.wd, noav_wf H.wf, H.p, H.l, H.b, Or.inl ⟨rfl, none, 0, rfl⟩, H.k⟩ rfl HG ⟨hg.rt, hg.b, by simp, hg.l⟩ vq q ql qw qv hq
theorem UsageQuiet_calls (W : World) (x : Ak) (vp vl vb va vk : Value) (hwd : Wide x.c) (hwf : x.Wf) (hp : IntsAt W .i64 vp x.c.ps) (hl : IntsAt W .i64 vl x.c.ls) (hb : BlsAt W vb x.bs) (ha : IntsAt W .u32 va x.av) (hk : PksAt W vk x.l) (vq : Value) (q : List Int) (ql : q.length ≤ maxLen) (qw : ∀ n ∈ q, (Lit.int .u16 n).wf = true) (qv : IntsAt W .u16 vq q) :
    Calls Tryz.prog 5 #[akV x vp vl vb va vk, vq] W fun e w' => e = .returned (.bool true) ∧ Below W.heap.size W w' := by
  by_cases hg : GoodA x
  · by_cases hq : 20 < q.length
    · exact UsageQuiet_long W x ⟨hwd, hwf, hp, hl, hb, ha, hk⟩ hg vq q ql qw qv hq
    · exact UsageQuiet_main W x ⟨hwd, hwf, hp, hl, hb, ha, hk⟩ hg vq q ql qw qv hq
  · exact UsageQuiet_bad W x ⟨hwd, hwf, hp, hl, hb, ha, hk⟩ hg vq q ql qw qv
end Go.Proofs.YtlpdafldabfiaaaGreat
