/- AdmitNone. Written by tools/gen_admit*.py. -/
import Derived.Test.YtjohngpbggendaaGreatB14
import Derived.Test.YtjohngpbggendaaGreatB42
import Derived.Test.YtjohngpbggendaaGreatB45
import Derived.Test.YtjohngpbggendaaGreatB46
import Derived.Test.YtjohngpbggendaaGreatB47
import Derived.Test.YtjohngpbggendaaGreatB48
import Derived.Lib.QuietBelow
import Derived.Deep.RegionWith
namespace Go.Proofs.YtjohngpbggendaaGreat
open Go.ChangeShapes Go.WideShapes Go.ChangeAt Go.RowKit Go.Shelf
set_option linter.unusedVariables false
set_option linter.unusedSimpArgs false
set_option maxRecDepth 100000
theorem AdmitNone_bad (W : World) (x : Ak) {vp vl vb va vk : Value} (H : AkAt W x vp vl vb va vk) (hg : ¬ GoodA x) :
    Calls Tryz.prog 4 #[akV x vp vl vb va vk] W fun e w' => e = .returned (.bool true) ∧ Below W.heap.size W w' := by
  obtain ⟨pp, cp, rfl⟩ := H.p.slice
  obtain ⟨pl, cl, rfl⟩ := H.l.slice
  have h0 := (Own.start W).new (akO x (.slice pp x.c.ps.length cp) (.slice pl x.c.ls.length cl) vb va vk)
  have Hh := Lib.hid (head12_any h0)
  have HG := fun w' (hb : Stp W w') => Lib.hid (aGood_no (w := w') (H.stp hb) hg)
  clear h0 hg
  unfold akV at HG ⊢
  clear H
  go_enter Tryz.func4, Tryz.ntmps4
  go_wp2_with fail
  refine Hh.out.mono ?_
  rintro e w1 ⟨rfl, hO⟩
  obtain ⟨d0, d1, d2, d3, d4, d5, d6, d7, d8, d9, d10, d11, d12, d13⟩ := akCells hO
  go_wp2_with fail
  refine (HG _ hO.toBelow).out.mono ?_
  rintro e w2 ⟨rfl, hB⟩
  have hO := hO.below hB
  clear hB HG Hh d0 d1 d2 d3 d4 d5 d6 d7 d8 d9 d10 d11 d12 d13
  have HB := Lib.hid hO.toBelow
  clear hO
  go_wp2_with fail
  go_ret
  exact ⟨rfl, HB.out⟩
set_option maxHeartbeats 20000000 in
theorem AdmitNone_main (W : World) (x : Ak) {vp vl vb va vk : Value} (H : AkAt W x vp vl vb va vk) (hg : GoodA x) :
    Calls Tryz.prog 4 #[akV x vp vl vb va vk] W fun e w' => e = .returned (.bool true) ∧ Below W.heap.size W w' := by
  obtain ⟨pp, cp, rfl⟩ := H.p.slice
  obtain ⟨pl, cl, rfl⟩ := H.l.slice
  have h0 := (Own.start W).new (akO x (.slice pp x.c.ps.length cp) (.slice pl x.c.ls.length cl) vb va vk)
  have Hh := Lib.hid (head12_any h0)
  have hr := hg.rt
  have hl40 := hg.l
  have hwfx := H.wf
  have HG := fun w' (hb : Stp W w') => Lib.hid (aGood_yes (w := w') (H.stp hb) hg)
  have HOf := fun w' (hb : Stp W w') => Lib.hid (aOf_any (w := w') (H.stp hb) hr)
  have HWd := fun w L (h : Own W NoF L w) => Lib.hid (aWords_any H hg h)
  have HPk := fun w L (h : Own W NoF L w) => Lib.hid (aPokes_any H hg h)
  have HNw := fun w L (h : Own W NoF L w) => Lib.hid (adNew_any (W := W) (L := L) (w := w) x.p (Ak.p_ok hr) H.p H.l h)
  have Hp := Lib.hid H.p
  have Hl := Lib.hid H.l
  have Hr := Lib.hid hr
  have Hdw := Lib.hid (akW_dw x hr hwfx)
  have hn0 := hr.n0
  have hn1 := hr.n1
  have HTy := Lib.hid (show Ak.p x = ⟨x.c, x.v, x.k, x.t⟩ from rfl)
  clear h0 hg hr hwfx
  unfold akV at HG HOf HWd HPk ⊢
  clear H
  go_enter Tryz.func4, Tryz.ntmps4
  go_wp2_with fail
  refine Hh.out.mono ?_
  rintro e w1 ⟨rfl, hO⟩
  obtain ⟨d0, d1, d2, d3, d4, d5, d6, d7, d8, d9, d10, d11, d12, d13⟩ := akCells hO
  go_wp2_with fail
  refine (HG _ hO.toBelow).out.mono ?_
  rintro e w2 ⟨rfl, hB⟩
  have hO := hO.below hB
  clear hB HG Hh d0 d1 d2 d3 d4 d5 d6 d7 d8 d9 d10 d11 d12 d13
  obtain ⟨d0, d1, d2, d3, d4, d5, d6, d7, d8, d9, d10, d11, d12, d13⟩ := akCells hO
  go_wp2_with fail
  refine (HOf _ hO.toBelow).out.mono ?_
  rintro e w3 ⟨rfl, hB⟩
  have hO := hO.below hB
  clear hB HOf d0 d1 d2 d3 d4 d5 d6 d7 d8 d9 d10 d11 d12 d13
  obtain ⟨d0, d1, d2, d3, d4, d5, d6, d7, d8, d9, d10, d11, d12, d13⟩ := akCells hO
  go_wp2_with fail
  refine (HWd _ _ hO).out.mono ?_
  rintro e w4 ⟨vw, rfl, hO⟩
  clear HWd d0 d1 d2 d3 d4 d5 d6 d7 d8 d9 d10 d11 d12 d13
  have hlen0 := akA_len x (akRA x)
  obtain ⟨ws, hws⟩ : ∃ ws, ws = akW x := ⟨_, rfl⟩
  rw [← hws] at hO Hdw
  have HLn := Lib.hid (show ws.length = sizeN x.c from by rw [hws]; exact hlen0)
  rw [← HLn.out] at hO
  have Hws := Lib.hid hws
  have hlen : 2 ≤ ws.length ∧ ws.length ≤ 400 := by
    have h1 := sizeN_bd Hr.out
    have h2 := (ti_nat Hr.out).2.1
    have h3 := HLn.out
    unfold sizeN at h1 h3
    omega
  clear hlen0 hws
  have HLd := Lib.hid (pLaid_any (by omega) (by omega) hO)
  clear hO
  go_wp2_with fail
  refine HLd.out.mono ?_
  rintro e w5 ⟨m, rfl, hO⟩
  clear HLd
  obtain ⟨d0, d1, d2, d3, d4, d5, d6, d7, d8, d9, d10, d11, d12, d13⟩ := akCells hO.p2
  have HN := HNw _ _ hO
  rw [HTy.out] at HN
  simp only at HN
  clear hO
  go_wp2_with fail
  refine HN.out.mono ?_
  rintro e w6 ⟨g, rfl, hO⟩
  rw [← HTy.out] at hO
  clear HN HNw d0 d1 d2 d3 d4 d5 d6 d7 d8 d9 d10 d11 d12 d13
  obtain ⟨p, hpp⟩ : ∃ p, p = Ak.p x := ⟨_, rfl⟩
  rw [← hpp] at hO
  have hpo : p.Ok := by rw [hpp]; exact Ak.p_ok Hr.out
  have hpc : p.c = x.c := by rw [hpp]; rfl
  have HPP := Lib.hid hpp
  obtain ⟨d0, d1, d2, d3, d4, d5, d6, d7, d8, d9, d10, d11, d12, d13⟩ := akCells hO.p3
  have HPk1 := HPk _ _ hO
  clear hO HPk
  go_wp2_with fail
  refine HPk1.out.mono ?_
  rintro e w7 ⟨vq, rfl, hO⟩
  clear HPk1 d0 d1 d2 d3 d4 d5 d6 d7 d8 d9 d10 d11 d12 d13
  have hPk := hO.pksAt
  have hO := hO.swap.under fun _ _ h => h.swap
  have hpl : (poA x).length ≤ 40 := by rw [poA_len]; omega
  have hpks : ∀ (t : Nat) B ws, 1099511627776 ≤ B → DW p.c B ws → DW p.c B (pokesAt t (poA x) ws) := fun t B ws hB h => by rw [hpc] at h ⊢; exact ask_pokes Hr.out t B ws hB h
  have hdw : DW p.c 1099511627776 ws := by rw [hpc]; exact Hdw.out
  have HPl := Lib.hid (Ad_play (vp := .slice pp x.c.ps.length cp) (vl := .slice pl x.c.ls.length cl) g m p 1099511627776 (by decide) vq (s0D p) ws [] (poA x) 3000 0 (by decide) (by omega) hPk (by decide) (by rw [hpc]; exact Hp.out) (by rw [hpc]; exact Hl.out) hpo hpks hdw (s0D_ok hpo _) (Nat.zero_le _) hO)
  obtain ⟨n, s', ws', lg', eP, hn, hE⟩ := admit_ends (M := adM (.slice pp x.c.ps.length cp) (.slice pl x.c.ls.length cl) g p) (fun _ _ _ => rfl) hpo (by decide) hpks hdw 3000 (by decide) hpl (by decide)
  rw [show (3000 : Int).toNat = 3000 from rfl, eP] at HPl
  clear hO eP hPk hpks hdw
  go_wp2_with fail
  refine HPl.out.mono ?_
  rintro e w8 ⟨rfl, hO⟩
  have hO : Own W NoF (adA (.slice pp x.c.ps.length cp) (.slice pl x.c.ls.length cl) g p s' :: memA 110 m ws' lg' :: row vq 72 3 (poA x).length (pkC (poA x)) :: row vw 3 1 ws.length (intC ws) :: [blk W.heap.size (akO x (.slice pp x.c.ps.length cp) (.slice pl x.c.ls.length cl) vb va vk)]) w8 := hO
  clear HPl
  have hlg := hE.len
  have hlgb : lg'.length ≤ 1000 := by omega
  have HLog := Lib.hid (Log_any (by omega) hO.swap)
  clear hO
  go_wp2_with fail
  refine HLog.out.mono ?_
  rintro e w9 ⟨vg, rfl, hO⟩
  clear HLog
  obtain ⟨pg, cg, rfl⟩ := row_slice hO
  obtain ⟨ea, -, -⟩ := ad_shut hE.shut
  have hk := Ak.k_bd (x := x)
  have HT := Lib.hid (fun (u : Nat) (hu : u < x.c.ps.length) => show ownU x.c u lg' = if erD s' = 0 ∧ onB x.c.ps x.v u = true then -x.k else 0 from by
    have h := hE.took hpo u (by rw [hpc]; exact hu)
    rw [ea]
    have hpv : (p.v : Int) = x.v := by rw [HPP.out]; rfl
    have hpn : p.n = x.k := by rw [HPP.out]; rfl
    rw [hpc, hpv, hpn] at h
    rw [h]
    simp only [onB, decide_eq_true_eq]
    rfl)
  have HLm := Lib.hid (fun y (hy : y ∈ lg') (u : Nat) (hu : u < x.c.ps.length) => show y.w ≠ (limN x.c u : Int) from by have := hE.lim y hy u (by rw [hpc]; exact hu); rw [hpc] at this; exact this)
  have HAn := fun L w (h : Own W NoF (adA (.slice pp x.c.ps.length cp) (.slice pl x.c.ls.length cl) g p s' :: L) w) => Lib.hid (adAns_any h)
  have HU := fun (b : Int) w' (hs : Stp W w') => Lib.hid (rUnder_any (w := w') x.c Hr.out.tr (Hp.out.stp hs) (Hl.out.stp hs) (x.v : Int) b)
  have HOwn := fun (u : Nat) (hu : u < x.c.ps.length) w' (hv : LogAt w' (.slice pg lg'.length cg) lg') => Lib.hid (aOwn_any (pp := pp) (cp := cp) (pl := pl) (cl := cl) Hr.out u hu (by omega) hv)
  have HLi := fun (u : Nat) (hu : u < x.c.ps.length) w' => (show Calls Tryz.prog 27 #[cfV x.c (.slice pp x.c.ps.length cp) (.slice pl x.c.ls.length cl), .int .i64 u] w' fun e w'' => e = .returned (.int .i64 (limN x.c u)) ∧ Below w'.heap.size w' w'' from by rw [← limN_eq Hr.out.sm]; exact rLimit_q (pp := pp) (np := x.c.ps.length) (cp := cp) (pl := pl) (nl := x.c.ls.length) (cl := cl) x.c Hr.out.sm (u : Int) (by omega) (by omega) w')
  unfold ansV at HAn
  generalize erD s' = er at *
  generalize anD s' = an at *
  generalize ndD s' = nd at *
  have HO1 := Lib.hid hO
  clear hO hE ea hlg hpo hpc hn hpl
  go_wp2_with fail
  go_loopw [12, 13] (fun v12 v13 wr => ∃ k : Nat, k ≤ x.c.ps.length ∧ v12 = .int .i64 k ∧ Own W NoF (row (.slice pg lg'.length cg) 63 5 lg'.length (logC lg') :: memA 110 m ws' lg' :: adA (.slice pp x.c.ps.length cp) (.slice pl x.c.ls.length cl) g p s' :: row vq 72 3 (poA x).length (pkC (poA x)) :: row vw 3 1 ws.length (intC ws) :: [blk W.heap.size (akO x (.slice pp x.c.ps.length cp) (.slice pl x.c.ls.length cl) vb va vk)]) wr) (fun v12 v13 _ => x.c.ps.length - (intOf v12).toNat)
  case atStart => exact ⟨0, Nat.zero_le _, rfl, HO1.out⟩
  case round =>
    obtain ⟨k, hkk, rfl, hO⟩ := hrel
    clear HO1
    obtain ⟨d0, d1, d2, d3, d4, d5, d6, d7, d8, d9, d10, d11, d12, d13⟩ := akCells hO.p5
    by_cases hlt : k < x.c.ps.length
    · have HA1 := HAn _ _ hO.p2
      have HTk := Lib.hid (HT.out k hlt)
      have g1 : (k : Int) < (x.c.ps.length : Int) := by omega
      have HO := Lib.hid hO
      clear hO HT
      go_wp2_with fail
      refine HA1.out.mono ?_
      rintro e w10 ⟨rfl, hB⟩
      have hO := HO.out.below hB
      clear HA1 HO hB HAn d0 d1 d2 d3 d4 d5 d6 d7 d8 d9 d10 d11 d12 d13
      obtain ⟨d0, d1, d2, d3, d4, d5, d6, d7, d8, d9, d10, d11, d12, d13⟩ := akCells hO.p5
      have qe := ans12E er an false nd
      by_cases her : er = 0
      · subst her
        have HU1 := HU k _ hO.toBelow
        have HO := Lib.hid hO
        generalize onB x.c.ps (x.v : Int) (k : Int) = bb at *
        clear hO HU
        go_wp2_with fail
        refine HU1.out.mono ?_
        rintro e w11 ⟨rfl, hB⟩
        have hO := HO.out.below hB
        clear HU1 HO hB d0 d1 d2 d3 d4 d5 d6 d7 d8 d9 d10 d11 d12 d13
        obtain ⟨d0, d1, d2, d3, d4, d5, d6, d7, d8, d9, d10, d11, d12, d13⟩ := akCells hO.p5
        have HOw := HOwn k hlt _ hO.logAt
        have HO := Lib.hid hO
        clear hO HOwn
        cases bb with
        | true =>
          have e1 : wrap64 (ownU x.c k lg') = -x.k := by rw [HTk.out]; rw [if_pos (by simp)]; unfold wrap64; omega
          rw [e1] at HOw
          clear HTk e1
          have hng : IntKind.i64.wrap (-x.k) = -x.k := IntWalk.i64_in _ (by omega)
          go_wp2_with fail
          refine HOw.out.mono ?_
          rintro e w12 ⟨rfl, hB⟩
          have HO2 := Lib.hid (HO.out.below hB)
          clear HOw HO hB d0 d1 d2 d3 d4 d5 d6 d7 d8 d9 d10 d11 d12 d13
          go_wp2_with fail
          go_roundw
          case rel => exact ⟨k + 1, by omega, by go_num, HO2.out⟩
          case measure => simp [intOf]; omega
        | false =>
          have e1 : wrap64 (ownU x.c k lg') = 0 := by rw [HTk.out]; rw [if_neg (by simp)]; simp [wrap64]
          rw [e1] at HOw
          clear HTk e1
          go_wp2_with fail
          refine HOw.out.mono ?_
          rintro e w12 ⟨rfl, hB⟩
          have HO2 := Lib.hid (HO.out.below hB)
          clear HOw HO hB d0 d1 d2 d3 d4 d5 d6 d7 d8 d9 d10 d11 d12 d13
          go_wp2_with fail
          go_roundw
          case rel => exact ⟨k + 1, by omega, by go_num, HO2.out⟩
          case measure => simp [intOf]; omega
      · obtain ⟨g2, g3⟩ := beqz her
        have HOw := HOwn k hlt _ hO.logAt
        have HO := Lib.hid hO
        clear hO HOwn HU
        have e1 : wrap64 (ownU x.c k lg') = 0 := by rw [HTk.out]; rw [if_neg (fun h => her h.1)]; simp [wrap64]
        rw [e1] at HOw
        clear HTk e1
        go_wp2_with fail
        refine HOw.out.mono ?_
        rintro e w12 ⟨rfl, hB⟩
        have HO2 := Lib.hid (HO.out.below hB)
        clear HOw HO hB d0 d1 d2 d3 d4 d5 d6 d7 d8 d9 d10 d11 d12 d13
        go_wp2_with fail
        go_roundw
        case rel => exact ⟨k + 1, by omega, by go_num, HO2.out⟩
        case measure => simp [intOf]; omega
    · obtain rfl : k = x.c.ps.length := by omega
      have HO2 := Lib.hid hO
      clear hO HT HOwn HU HAn
      go_wp2_with fail
      clear d0 d1 d2 d3 d4 d5 d6 d7 d8 d9 d10 d11 d12 d13
      go_loopw [14, 15] (fun v14 v15 wr => ∃ i : Nat, i ≤ lg'.length ∧ v14 = .int .i64 i ∧ Own W NoF (row (.slice pg lg'.length cg) 63 5 lg'.length (logC lg') :: memA 110 m ws' lg' :: adA (.slice pp x.c.ps.length cp) (.slice pl x.c.ls.length cl) g p s' :: row vq 72 3 (poA x).length (pkC (poA x)) :: row vw 3 1 ws.length (intC ws) :: [blk W.heap.size (akO x (.slice pp x.c.ps.length cp) (.slice pl x.c.ls.length cl) vb va vk)]) wr) (fun v14 v15 _ => lg'.length - (intOf v14).toNat)
      case atStart => exact ⟨0, Nat.zero_le _, rfl, HO2.out⟩
      case round =>
        obtain ⟨i, hi, rfl, hO⟩ := hrel
        clear HO2
        obtain ⟨d0, d1, d2, d3, d4, d5, d6, d7, d8, d9, d10, d11, d12, d13⟩ := akCells hO.p5
        by_cases hli : i < lg'.length
        · have hmem : lg'.getD i ⟨0, 0, 0, 0, false⟩ ∈ lg' := by simp [List.getD, hli]
          have HLi2 := Lib.hid (HLm.out _ hmem)
          have g4 : (i : Int) < (lg'.length : Int) := by omega
          have HO3 := Lib.hid hO
          clear hO hmem
          go_wp2_with fail
          clear d0 d1 d2 d3 d4 d5 d6 d7 d8 d9 d10 d11 d12 d13
          go_loopw [15] (fun v15 wr => ∃ u : Nat, u ≤ x.c.ps.length ∧ v15 = .int .i64 u ∧ Own W NoF (row (.slice pg lg'.length cg) 63 5 lg'.length (logC lg') :: memA 110 m ws' lg' :: adA (.slice pp x.c.ps.length cp) (.slice pl x.c.ls.length cl) g p s' :: row vq 72 3 (poA x).length (pkC (poA x)) :: row vw 3 1 ws.length (intC ws) :: [blk W.heap.size (akO x (.slice pp x.c.ps.length cp) (.slice pl x.c.ls.length cl) vb va vk)]) wr) (fun v15 _ => x.c.ps.length - (intOf v15).toNat)
          case atStart => exact ⟨0, Nat.zero_le _, rfl, HO3.out⟩
          case round =>
            obtain ⟨u, hu, rfl, hO⟩ := hrel
            clear HO3
            obtain ⟨d0, d1, d2, d3, d4, d5, d6, d7, d8, d9, d10, d11, d12, d13⟩ := akCells hO.p5
            by_cases hlu : u < x.c.ps.length
            · obtain ⟨b3, o3, c3, e3, hc3⟩ := hO.logAt.at (by omega)
              injection e3 with e3 _ e4
              subst e3 e4
              have y1 := hc3 i 1 hli (by omega)
              obtain ⟨z, hz⟩ : ∃ z, z = lg'.getD i ⟨0, 0, 0, 0, false⟩ := ⟨_, rfl⟩
              rw [← hz] at y1
              have hne := HLi2.out u hlu
              rw [← hz] at hne
              obtain ⟨z0, z1, z2, z3, z4⟩ := z
              have y1 : wr.cell? ⟨b3, o3 + i * 5 + 1, none⟩ = some (.int .i64 z1) := y1
              obtain ⟨g5, g6⟩ := beqz hne
              have g7 : (u : Int) < (x.c.ps.length : Int) := by omega
              have CLm := fun (d : Nat) (os : Array Obj) => Calls.regrown_of (HLi u hlu (Go.Sort.grow (redrawn wr d) os))
              have k1 := cell_regrown y1
              have q0 := cell_regrown d0
              have q1 := cell_regrown d1
              have q2 := cell_regrown d2
              have q3 := cell_regrown d3
              have q4 := cell_regrown d4
              have q5 := cell_regrown d5
              have q6 := cell_regrown d6
              have q7 := cell_regrown d7
              have HRG := Lib.hid (fun (d : Nat) (os : Array Obj) => hO.below (below_regrown wr d os))
              clear hO hc3 hz HLi
              generalize (limN x.c u : Int) = LM at *
              go_wp2_with fail
              clear y1 d0 d1 d2 d3 d4 d5 d6 d7 d8 d9 d10 d11 d12 d13
              try dsimp only [List.append]
              refine wp_region_quiet_below (by kernel_rfl) (by kernel_rfl) ?_
              repeat (go_big_quiet_step ((go_at_call 27; with_reducible exact CLm _ _)))
              refine wpQuiet_nil ?_
              intro _ hw'
              obtain ⟨⟨dq, osq⟩, hw''⟩ := hw'
              subst hw''
              have hO := HRG.out dq osq
              clear HRG CLm k1 q0 q1 q2 q3 q4 q5 q6 q7
              generalize Go.Sort.grow (redrawn wr dq) osq = w12 at *
              have HO := Lib.hid hO
              clear hO
              go_wp2_with fail
              go_roundw
              case rel => exact ⟨u + 1, by omega, by go_num, HO.out⟩
              case measure => simp [intOf]; omega
            · obtain rfl : u = x.c.ps.length := by omega
              have HO := Lib.hid hO
              clear hO
              go_wp2_with fail
              go_roundw
              case rel => exact ⟨i + 1, by omega, by go_num, HO.out⟩
              case measure => simp [intOf]; omega
        · obtain rfl : i = lg'.length := by omega
          have HB := Lib.hid hO.toBelow
          clear hO
          go_wp2_with fail
          go_ret
          exact ⟨rfl, HB.out⟩
theorem AdmitNone_calls (W : World) (x : Ak) (vp vl vb va vk : Value) (hwd : Wide x.c) (hwf : x.Wf) (hp : IntsAt W .i64 vp x.c.ps) (hl : IntsAt W .i64 vl x.c.ls) (hb : BlsAt W vb x.bs) (ha : IntsAt W .u32 va x.av) (hk : PksAt W vk x.l) :
    Calls Tryz.prog 4 #[akV x vp vl vb va vk] W fun e w' => e = .returned (.bool true) ∧ Below W.heap.size W w' := by
  by_cases hg : GoodA x
  · exact AdmitNone_main W x ⟨hwd, hwf, hp, hl, hb, ha, hk⟩ hg
  · exact AdmitNone_bad W x ⟨hwd, hwf, hp, hl, hb, ha, hk⟩ hg
end Go.Proofs.YtjohngpbggendaaGreat
