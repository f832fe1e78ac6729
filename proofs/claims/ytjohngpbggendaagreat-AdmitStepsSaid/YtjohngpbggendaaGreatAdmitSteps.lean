/- AdmitSteps. Written by tools/gen_admit*.py. -/
import Derived.Test.YtjohngpbggendaaGreatB8
import Derived.Test.YtjohngpbggendaaGreatB14
import Derived.Test.YtjohngpbggendaaGreatB22
import Derived.Test.YtjohngpbggendaaGreatB45
import Derived.Test.YtjohngpbggendaaGreatB46
import Derived.Test.YtjohngpbggendaaGreatB47
import Derived.Test.YtjohngpbggendaaGreatB48
import Derived.Lib.QuietBelow
import Derived.Deep.RegionWith
import Derived.StillTailTactics
namespace Go.Proofs.YtjohngpbggendaaGreat
open Go.ChangeShapes Go.WideShapes Go.ChangeAt Go.RowKit Go.Shelf
set_option linter.unusedVariables false
set_option linter.unusedSimpArgs false
set_option maxRecDepth 100000
theorem ans12Z (w : World) : (binOp .neq 53 (.agg #[.int .i64 0, .int .i64 0, .bool false, .int .i64 0]) (.agg #[.int .i64 0, .int .i64 0, .bool false, .int .i64 0])).run Tryz.prog w = .ok (.bool false) w := by kernel_rfl
/-- Behind a refusal by a node the last access frees the ticket. -/
theorem last_free {p : DP} {B0 : Int} {M0 t : Nat} {s : DS} {ws : List Int} {lg : List Acc} (h : DE p B0 M0 (t + 1) s ws lg) (he : s.er = 4) : (lg.getD t ⟨0, 0, 0, 0, false⟩).kind = 4 ∧ stS (lg.getD t ⟨0, 0, 0, 0, false⟩).a = 0 ∧ I64 (lg.getD t ⟨0, 0, 0, 0, false⟩).a := by
  obtain ⟨lg0, e⟩ := h.last he
  have hl := h.len
  rw [e] at hl
  have hl0 : lg0.length = t := by simpa using hl
  have : lg.getD t ⟨0, 0, 0, 0, false⟩ = ⟨4, (tkN p.c s.cs.n : Nat), tnW s.cs.put 0, 0, false⟩ := by rw [e, ← hl0]; simp [List.getD]
  rw [this]
  exact ⟨rfl, tn_st _ _ (by decide) (by decide), tn_I64 _ _⟩
theorem AdmitSteps_bad (W : World) (x : Ak) {vp vl vb va vk : Value} (H : AkAt W x vp vl vb va vk) (hg : ¬ GoodA x) :
    Calls Tryz.prog 6 #[akV x vp vl vb va vk] W fun e w' => e = .returned (.bool true) ∧ Below W.heap.size W w' := by
  obtain ⟨pp, cp, rfl⟩ := H.p.slice
  obtain ⟨pl, cl, rfl⟩ := H.l.slice
  have h0 := (Own.start W).new (akO x (.slice pp x.c.ps.length cp) (.slice pl x.c.ls.length cl) vb va vk)
  have Hh := Lib.hid (head12_any h0)
  have HG := fun w' (hb : Stp W w') => Lib.hid (aGood_no (w := w') (H.stp hb) hg)
  clear h0 hg
  unfold akV at HG ⊢
  clear H
  go_enter Tryz.func6, Tryz.ntmps6
  go_wp2_with fail
  refine Hh.out.mono ?_
  rintro e w1 ⟨rfl, hO⟩
  obtain ⟨d0, d1, d2, d3, d4, d5, d6, d7, d8, d9, d10, d11, d12, d13⟩ := akCells hO
  go_wp2_with fail
  refine (HG _ hO.toBelow).out.mono ?_
  rintro e w2 ⟨rfl, hB⟩
  have hO := hO.below hB
  clear hB HG Hh d0 d1 d2 d3 d4 d5 d6 d7 d8 d9 d10 d11 d12 d13
  have HB := Lib.hid hO.toBelow
  clear hO
  go_wp2_with fail
  go_ret
  exact ⟨rfl, HB.out⟩
set_option maxHeartbeats 20000000 in
theorem AdmitSteps_main (W : World) (x : Ak) {vp vl vb va vk : Value} (H : AkAt W x vp vl vb va vk) (hg : GoodA x) :
    Calls Tryz.prog 6 #[akV x vp vl vb va vk] W fun e w' => e = .returned (.bool true) ∧ Below W.heap.size W w' := by
  obtain ⟨pp, cp, rfl⟩ := H.p.slice
  obtain ⟨pl, cl, rfl⟩ := H.l.slice
  have h0 := (Own.start W).new (akO x (.slice pp x.c.ps.length cp) (.slice pl x.c.ls.length cl) vb va vk)
  have Hh := Lib.hid (head12_any h0)
  have hr := hg.rt
  have hl40 := hg.l
  have hwfx := H.wf
  have HG := fun w' (hb : Stp W w') => Lib.hid (aGood_yes (w := w') (H.stp hb) hg)
  have HOf := fun w' (hb : Stp W w') => Lib.hid (aOf_any (w := w') (H.stp hb) hr)
  have HWd := fun w L (h : Own W NoF L w) => Lib.hid (aWords_any H hg h)
  have HPk := fun w L (h : Own W NoF L w) => Lib.hid (aPokes_any H hg h)
  have HNw := fun w L (h : Own W NoF L w) => Lib.hid (adNew_any (W := W) (L := L) (w := w) x.p (Ak.p_ok hr) H.p H.l h)
  have Hp := Lib.hid H.p
  have Hl := Lib.hid H.l
  have Hr := Lib.hid hr
  have Hdw := Lib.hid (akW_dw x hr hwfx)
  have hn0 := hr.n0
  have hn1 := hr.n1
  have HTy := Lib.hid (show Ak.p x = ⟨x.c, x.v, x.k, x.t⟩ from rfl)
  clear h0 hg hr hwfx
  unfold akV at HG HOf HWd HPk ⊢
  clear H
  go_enter Tryz.func6, Tryz.ntmps6
  go_wp2_with fail
  refine Hh.out.mono ?_
  rintro e w1 ⟨rfl, hO⟩
  obtain ⟨d0, d1, d2, d3, d4, d5, d6, d7, d8, d9, d10, d11, d12, d13⟩ := akCells hO
  go_wp2_with fail
  refine (HG _ hO.toBelow).out.mono ?_
  rintro e w2 ⟨rfl, hB⟩
  have hO := hO.below hB
  clear hB HG Hh d0 d1 d2 d3 d4 d5 d6 d7 d8 d9 d10 d11 d12 d13
  obtain ⟨d0, d1, d2, d3, d4, d5, d6, d7, d8, d9, d10, d11, d12, d13⟩ := akCells hO
  go_wp2_with fail
  refine (HOf _ hO.toBelow).out.mono ?_
  rintro e w3 ⟨rfl, hB⟩
  have hO := hO.below hB
  clear hB HOf d0 d1 d2 d3 d4 d5 d6 d7 d8 d9 d10 d11 d12 d13
  obtain ⟨d0, d1, d2, d3, d4, d5, d6, d7, d8, d9, d10, d11, d12, d13⟩ := akCells hO
  go_wp2_with fail
  refine (HWd _ _ hO).out.mono ?_
  rintro e w4 ⟨vw, rfl, hO⟩
  clear HWd d0 d1 d2 d3 d4 d5 d6 d7 d8 d9 d10 d11 d12 d13
  have hlen0 := akA_len x (akRA x)
  obtain ⟨ws, hws⟩ : ∃ ws, ws = akW x := ⟨_, rfl⟩
  rw [← hws] at hO Hdw
  have HLn := Lib.hid (show ws.length = sizeN x.c from by rw [hws]; exact hlen0)
  rw [← HLn.out] at hO
  have Hws := Lib.hid hws
  have hlen : 2 ≤ ws.length ∧ ws.length ≤ 400 := by
    have h1 := sizeN_bd Hr.out
    have h2 := (ti_nat Hr.out).2.1
    have h3 := HLn.out
    unfold sizeN at h1 h3
    omega
  clear hlen0 hws
  have HLd := Lib.hid (pLaid_any (by omega) (by omega) hO)
  clear hO
  go_wp2_with fail
  refine HLd.out.mono ?_
  rintro e w5 ⟨m, rfl, hO⟩
  clear HLd
  obtain ⟨d0, d1, d2, d3, d4, d5, d6, d7, d8, d9, d10, d11, d12, d13⟩ := akCells hO.p2
  have HN := HNw _ _ hO
  rw [HTy.out] at HN
  simp only at HN
  clear hO
  go_wp2_with fail
  refine HN.out.mono ?_
  rintro e w6 ⟨g, rfl, hO⟩
  rw [← HTy.out] at hO
  clear HN HNw d0 d1 d2 d3 d4 d5 d6 d7 d8 d9 d10 d11 d12 d13
  obtain ⟨p, hpp⟩ : ∃ p, p = Ak.p x := ⟨_, rfl⟩
  rw [← hpp] at hO
  have hpo : p.Ok := by rw [hpp]; exact Ak.p_ok Hr.out
  have hpc : p.c = x.c := by rw [hpp]; rfl
  have HPP := Lib.hid hpp
  obtain ⟨d0, d1, d2, d3, d4, d5, d6, d7, d8, d9, d10, d11, d12, d13⟩ := akCells hO.p3
  have HPk1 := HPk _ _ hO
  clear hO HPk
  go_wp2_with fail
  refine HPk1.out.mono ?_
  rintro e w7 ⟨vq, rfl, hO⟩
  clear HPk1 d0 d1 d2 d3 d4 d5 d6 d7 d8 d9 d10 d11 d12 d13
  obtain ⟨pr3, cr3, rfl⟩ := row_slice hO
  have hpl : (poA x).length ≤ 40 := by rw [poA_len]; omega
  have hpks : ∀ (t : Nat) B ws, 1099511627776 ≤ B → DW p.c B ws → DW p.c B (pokesAt t (poA x) ws) := fun t B ws hB h => by rw [hpc] at h ⊢; exact ask_pokes Hr.out t B ws hB h
  have hdw : DW p.c 1099511627776 ws := by rw [hpc]; exact Hdw.out
  have hO : Own W NoF (adA (.slice pp x.c.ps.length cp) (.slice pl x.c.ls.length cl) g p (s0D p) :: memA 110 m ws [] :: row (.slice pr3 (poA x).length cr3) 72 3 (poA x).length (pkC (poA x)) :: [blk W.heap.size (akO x (.slice pp x.c.ps.length cp) (.slice pl x.c.ls.length cl) vb va vk)]) w7 := hO.swap.under fun _ _ h => h.swap.under fun _ _ h => h.swap.drop
  generalize poA x = R at *
  have HST0 := Lib.hid (fun (L : List Asn) s ws lg w ok h => ad_steps (W := W) (vp := .slice pp x.c.ps.length cp) (vl := .slice pl x.c.ls.length cl) g m 110 p (by rw [hpc]; exact Hp.out) (by rw [hpc]; exact Hl.out) L s ws lg w ok h)
  have HI0 := Lib.hid (show DI p 1099511627776 (200 + 7 * cntP R 0) 0 (s0D p) ws [] from by have h0 := DI.start hpo hdw; exact ⟨h0.w, h0.ok, h0.open_, by have := h0.mu; omega, h0.len, h0.own, h0.lim⟩)
  have HPK := Lib.hid hpks
  have HPO := Lib.hid hpo
  have HPC := Lib.hid hpc
  have HAn := fun (s : DS) L w (h : Own W NoF (adA (.slice pp x.c.ps.length cp) (.slice pl x.c.ls.length cl) g p s :: L) w) => Lib.hid (adAns_any h)
  have HEn := Lib.hid (fun (B : Int) (hB : B ≤ 1000000000000000000) (s : DS) ws lg (hw : DW p.c B ws) (hs : DSOk p B s) (hl : lg.length < 1000000) (h6 : s.ph = 6) L w h => adStep_end (W := W) (L := L) (w := w) (vp := .slice pp x.c.ps.length cp) (vl := .slice pl x.c.ls.length cl) (g := g) (T := 110) (m := m) (ws := ws) (lg := lg) hpo hB (by rw [hpc]; exact Hp.out) (by rw [hpc]; exact Hl.out) hw hs hl h6 h)
  unfold ansV at HAn
  have HO := Lib.hid hO
  clear hO hpks hdw hpo hpc Hdw Hws HLn HTy HPP
  go_wp2_with fail
  go_loopw [10, 11, 12, 13, 14] (fun v10 v11 v12 v13 v14 wr => ∃ (n : Nat) (s1 : DS) (ws : List Int) (lg : List Acc), n ≤ 2000 ∧ v10 = .int .i64 n ∧ DI p 1099511627776 (200 + 7 * cntP R n) n s1 ws lg ∧ Own W NoF (adA (.slice pp x.c.ps.length cp) (.slice pl x.c.ls.length cl) g p s1 :: memA 110 m ws lg :: row (.slice pr3 R.length cr3) 72 3 R.length (pkC R) :: [blk W.heap.size (akO x (.slice pp x.c.ps.length cp) (.slice pl x.c.ls.length cl) vb va vk)]) wr) (fun v10 v11 v12 v13 v14 _ => 2000 - (intOf v10).toNat)
  case atStart => exact ⟨0, _, ws, [], by decide, rfl, HI0.out, HO.out⟩
  case round =>
    obtain ⟨n, s1, ws, lg, hn, rfl, hI, hO⟩ := hrel
    have hnb : n ≤ 480 := by have h1 := hI.mu; have h2 := cntP_le R n; omega
    have HO2 := Lib.hid hO
    have HI := Lib.hid hI
    clear HO HI0 hO hI hlen
    have f60 : decide ((n : Int) < 2000) = true := by simp; omega
    go_wp2_with fail
    go_loopw [11] (fun v11 wr => ∃ k : Nat, k ≤ R.length ∧ v11 = .int .i64 k ∧ Own W NoF (memA 110 m (pokesAt n (R.take k) ws) lg :: adA (.slice pp x.c.ps.length cp) (.slice pl x.c.ls.length cl) g p s1 :: row (.slice pr3 R.length cr3) 72 3 R.length (pkC R) :: [blk W.heap.size (akO x (.slice pp x.c.ps.length cp) (.slice pl x.c.ls.length cl) vb va vk)]) wr) (fun v11 _ => R.length - (intOf v11).toNat)
    case atStart => exact ⟨0, Nat.zero_le _, rfl, HO2.out.swap⟩
    case round =>
      obtain ⟨k, hk, rfl, hO⟩ := hrel
      clear HO2
      by_cases hkl : k < R.length
      · obtain ⟨b3, o3, e3, hb3, hc3⟩ := hO.p2.pksAt.at (by rw [pkC_len]; omega) (by omega)
        have Hnx := Lib.hid (pokes_take (t := (n : Int)) hkl ws)
        obtain ⟨y, hy⟩ : ∃ y, y = R.getD k default := ⟨_, rfl⟩
        have e := fun j hj => pkC_get R k j hkl hj
        rw [← hy] at e Hnx
        have x0 : wr.cell? ⟨b3, o3 + k * 3, none⟩ = some (.int .i64 y.at_) := hc3 (k * 3 + 0) _ (e 0 (by omega))
        have x1 : wr.cell? ⟨b3, o3 + k * 3 + 1, none⟩ = some (.int .i64 y.w) := hc3 (k * 3 + 1) _ (e 1 (by omega))
        have x2 : wr.cell? ⟨b3, o3 + k * 3 + 2, none⟩ = some (.int .i64 y.x) := hc3 (k * 3 + 2) _ (e 2 (by omega))
        clear hc3 e hy
        subst e3
        have HO := Lib.hid hO
        clear hO
        generalize pokesAt n (R.take k) ws = wk at HO Hnx
        by_cases hat : y.at_ = n
        · have hF : (y.at_ == (n : Int)) = true := by rw [beq_iff_eq]; exact hat
          have hnx := Hnx.out
          rw [if_pos hat] at hnx
          have Hnx2 := Lib.hid hnx
          have HPw := Lib.hid (fun w h => PokeW_any (w0 := W) (F0 := NoF) (L := adA (.slice pp x.c.ps.length cp) (.slice pl x.c.ls.length cl) g p s1 :: row (.slice (some ⟨b3, o3, none⟩) R.length cr3) 72 3 R.length (pkC R) :: [blk W.heap.size (akO x (.slice pp x.c.ps.length cp) (.slice pl x.c.ls.length cl) vb va vk)]) (T := 110) (m := m) (ws := wk) (l := lg) (w := w) y h)
          clear hat hnx Hnx
          go_wp2_with fail
          refine wp_region_still_tail 11 (by kernel_rfl) (by kernel_rfl) ?_
          simp only [List.take_succ_cons, List.take_zero, List.drop_succ_cons, List.drop_zero]
          change wpStill _ _ wr.drew _ _ _
          iterate 11 still_step
          refine wpStill_nil ?_
          change wpList _ _ _ _ _ wr.drew
          go_wp2_with fail
          refine (HPw.out _ HO.out.drew).mono ?_
          rintro e w9 ⟨rfl, hO⟩
          rw [← Hnx2.out] at hO
          have HO3 := Lib.hid hO
          clear hO x0 x1 x2 HPw HO
          go_wp2_with fail
          go_roundw
          case rel => exact ⟨k + 1, by omega, by go_num, HO3.out⟩
          case measure => simp [intOf]; omega
        · have hF : (y.at_ == (n : Int)) = false := by rw [beq_eq_false_iff_ne]; exact hat
          have hnx := Hnx.out
          rw [if_neg hat] at hnx
          have Hnx2 := Lib.hid hnx
          clear hat hnx Hnx
          go_wp2_with fail
          go_roundw
          case rel => exact ⟨k + 1, by omega, by go_num, by rw [Hnx2.out]; exact HO.out⟩
          case measure => simp [intOf]; omega
      · obtain rfl : k = R.length := by omega
        rw [List.take_length] at hO
        have hI2 := HI.out.poke HPK.out
        generalize pokesAt n R ws = wk at hO hI2
        have hB := bt_le (B0 := 1099511627776) (t := n) (by decide) (by omega)
        have hST := HST0.out _ s1 wk lg wr ⟨HPO.out, ⟨_, hB, hI2.w, hI2.ok⟩, by rw [hI2.len]; omega⟩ hO.swap
        obtain ⟨q1, q2⟩ := hI2.step HPO.out (by decide) (show n ≤ 1000000 by omega)
        have q3 := stepD_log (lg := lg) HPO.out hB hI2.w hI2.ok hI2.open_
        have hl0 := hI2.len
        simp only [adM] at hST
        generalize (stepD p s1 wk lg).1 = s2 at *
        generalize (stepD p s1 wk lg).2.1 = wz at *
        generalize (stepD p s1 wk lg).2.2.1 = lz at *
        generalize (stepD p s1 wk lg).2.2.2 = fl at *
        have hlz : lz.length = n + 1 := by omega
        have HST := Lib.hid hST
        have Hlz := Lib.hid hlz
        have Hq1 := Lib.hid q1
        have Hq2 := Lib.hid q2
        clear hST q1 q2 q3 hI2 HI hO hkl hk hl0 HPK HST0
        go_wp2_with fail
        refine HST.out.mono ?_
        rintro e w9 ⟨rfl, hO⟩
        clear HST
        have HLg := Lib.hid (Log_any (by omega) hO.swap)
        clear hO
        go_wp2_with fail
        refine HLg.out.mono ?_
        rintro e w10 ⟨vg, rfl, hO⟩
        obtain ⟨pg, cg, rfl⟩ := row_slice hO
        have hO : Own W NoF (row (.slice pg lz.length cg) 63 5 lz.length (logC lz) :: memA 110 m wz lz :: adA (.slice pp x.c.ps.length cp) (.slice pl x.c.ls.length cl) g p s2 :: row (.slice pr3 R.length cr3) 72 3 R.length (pkC R) :: [blk W.heap.size (akO x (.slice pp x.c.ps.length cp) (.slice pl x.c.ls.length cl) vb va vk)]) w10 := hO
        have g1 : ((lz.length : Int) != (n : Int) + 1) = false := by rw [Hlz.out]; simp
        clear HLg
        cases fl with
        | false =>
          have hi := Hq1.out rfl
          obtain ⟨e1, e2, e3⟩ := ad_open hi.open_
          have HA := HAn s2 _ _ hO.p2
          rw [e1, e2, e3] at HA
          have HO := Lib.hid hO
          have HI2 := Lib.hid (show DI p 1099511627776 (200 + 7 * cntP R (n + 1)) (n + 1) s2 wz lz from hi)
          have qz := ans12Z
          clear hO e1 e2 e3 hi Hq1 Hq2 HAn HEn hlz
          go_wp2_with fail
          refine HA.out.mono ?_
          rintro e w11 ⟨rfl, hB⟩
          have HO3 := Lib.hid ((HO.out.below hB).drop.swap)
          clear HA HO hB
          go_wp2_with fail
          go_roundw
          case rel => exact ⟨n + 1, s2, wz, lz, by omega, by go_num, HI2.out, HO3.out⟩
          case measure => simp [intOf]; omega
        | true =>
          have hi := Hq2.out rfl
          obtain ⟨e1, e2, e3⟩ := ad_shut hi.shut
          obtain ⟨b3, o3, c3, e4, hc3⟩ := hO.logAt.at (by omega)
          injection e4 with e4 _ e5
          subst e4 e5
          have HLF := Lib.hid (last_free hi)
          obtain ⟨z, hz⟩ : ∃ z, z = lz.getD n ⟨0, 0, 0, 0, false⟩ := ⟨_, rfl⟩
          rw [← hz] at HLF
          have yy := fun j hj => hc3 n j (by omega) hj
          rw [← hz] at yy
          obtain ⟨z0, z1, z2, z3, z4⟩ := z
          have y0 : w10.cell? ⟨b3, o3 + n * 5, none⟩ = some (.int .i64 z0) := yy 0 (by omega)
          have y1 : w10.cell? ⟨b3, o3 + n * 5 + 1, none⟩ = some (.int .i64 z1) := yy 1 (by omega)
          have y2 : w10.cell? ⟨b3, o3 + n * 5 + 2, none⟩ = some (.int .i64 z2) := yy 2 (by omega)
          have y3 : w10.cell? ⟨b3, o3 + n * 5 + 3, none⟩ = some (.int .i64 z3) := yy 3 (by omega)
          have y4 : w10.cell? ⟨b3, o3 + n * 5 + 4, none⟩ = some (.bool z4) := yy 4 (by omega)
          have g2 : (n : Int) < (lz.length : Int) := by omega
          have hNB := hO.new (.cells #[.int .i64 z0, .int .i64 z1, .int .i64 z2, .int .i64 z3, .bool z4] 63)
          have HNB := Lib.hid hNB
          obtain ⟨NB, hNBe⟩ : ∃ NB, NB = w10.heap.size := ⟨_, rfl⟩
          rw [← hNBe] at HNB
          clear hO hc3 hz yy hNB
          go_wp2_with fail
          rw [← hNBe]
          clear hNBe
          have hS := HNB.out.p3.under fun _ _ h => h.p2
          have HE1 := Lib.hid (HEn.out _ (bt_le (t := n + 1) (by decide) (by omega)) s2 wz lz hi.w hi.ok (by omega) hi.shut _ _ hS)
          clear hS HNB HEn y0 y1 y2 y3 y4
          refine HE1.out.mono ?_
          rintro e w12 ⟨rfl, hO⟩
          have HLg := Lib.hid (Log_any (by omega) hO.swap)
          clear hO HE1
          go_wp2_with fail
          refine HLg.out.mono ?_
          rintro e w13 ⟨vg, rfl, hO⟩
          obtain ⟨pg2, cg2, rfl⟩ := row_slice hO
          have g3 : ((lz.length : Int) == (n : Int) + 1) = true := by rw [Hlz.out]; simp
          have HA := HAn s2 _ _ hO.p2
          have qe := ans12E (erD s2) (anD s2) false (ndD s2)
          rw [e1] at HA qe
          have HLF2 := Lib.hid (show s2.er = 4 → z0 = 4 ∧ stS z2 = 0 ∧ I64 z2 from HLF.out)
          generalize s2.er = er at *
          generalize anD s2 = an at *
          generalize ndD s2 = nd at *
          have HO := Lib.hid hO
          clear hO HLg HAn hi Hq1 Hq2 e2 e3 e1 HLF
          go_wp2_with fail
          refine HA.out.mono ?_
          rintro e w14 ⟨rfl, hB⟩
          have hO := HO.out.below hB
          have hN := hO.p3
          have z0c : w14.cell? ⟨NB, 0, none⟩ = some (.int .i64 z0) := hN.cell (i := 0) rfl
          have z2c : w14.cell? ⟨NB, 2, none⟩ = some (.int .i64 z2) := hN.cell (i := 2) rfl
          have HO2 := Lib.hid hO
          clear HA HO hB hO hN
          by_cases her : er = 4
          · obtain ⟨l0, l1, l2⟩ := HLF2.out her
            have HSt := Lib.hid (rState_any z2 l2 w14)
            rw [l1] at HSt
            subst her l0
            clear HLF2 l1 l2
            go_wp2_with fail
            refine HSt.out.mono ?_
            rintro e w15 ⟨rfl, hB⟩
            have HB := Lib.hid (HO2.out.below hB).toBelow
            clear hB HSt HO2 z0c z2c
            go_wp2_with fail
            go_ret
            exact ⟨rfl, HB.out⟩
          · have g5 : (er != 4) = true := by simp [her]
            obtain ⟨g6, g7⟩ := beqz her
            have HB := Lib.hid HO2.out.toBelow
            clear HO2 HLF2
            go_wp2_with fail
            go_ret
            exact ⟨rfl, HB.out⟩
theorem AdmitSteps_calls (W : World) (x : Ak) (vp vl vb va vk : Value) (hwd : Wide x.c) (hwf : x.Wf) (hp : IntsAt W .i64 vp x.c.ps) (hl : IntsAt W .i64 vl x.c.ls) (hb : BlsAt W vb x.bs) (ha : IntsAt W .u32 va x.av) (hk : PksAt W vk x.l) :
    Calls Tryz.prog 6 #[akV x vp vl vb va vk] W fun e w' => e = .returned (.bool true) ∧ Below W.heap.size W w' := by
  by_cases hg : GoodA x
  · exact AdmitSteps_main W x ⟨hwd, hwf, hp, hl, hb, ha, hk⟩ hg
  · exact AdmitSteps_bad W x ⟨hwd, hwf, hp, hl, hb, ha, hk⟩ hg
end Go.Proofs.YtjohngpbggendaaGreat
