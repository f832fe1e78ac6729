/- AdmitBack. Written by tools/gen_admit*.py. -/
import Derived.Test.YtjohngpbggendaaGreatB14
import Derived.Test.YtjohngpbggendaaGreatB20
import Derived.Test.YtjohngpbggendaaGreatB22
import Derived.Test.YtjohngpbggendaaGreatB29
import Derived.Test.YtjohngpbggendaaGreatB42
import Derived.Test.YtjohngpbggendaaGreatB46
import Derived.Test.YtjohngpbggendaaGreatB48
import Derived.Test.YtjohngpbggendaaGreatB49
import Derived.Lib.QuietBelow
import Derived.Deep.RegionWith
namespace Go.Proofs.YtjohngpbggendaaGreat
open Go.ChangeShapes Go.WideShapes Go.ChangeAt Go.RowKit Go.Shelf
set_option linter.unusedVariables false
set_option linter.unusedSimpArgs false
set_option maxRecDepth 100000
theorem AdmitBack_bad (W : World) (x : Ak) {vp vl vb va vk : Value} (H : AkAt W x vp vl vb va vk) (hg : ¬ GoodA x) :
    Calls Tryz.prog 8 #[akV x vp vl vb va vk] W fun e w' => e = .returned (.bool true) ∧ Below W.heap.size W w' := by
  obtain ⟨pp, cp, rfl⟩ := H.p.slice
  obtain ⟨pl, cl, rfl⟩ := H.l.slice
  have h0 := (Own.start W).new (akO x (.slice pp x.c.ps.length cp) (.slice pl x.c.ls.length cl) vb va vk)
  have Hh := Lib.hid (head12_any h0)
  have HG := fun w' (hb : Stp W w') => Lib.hid (aGood_no (w := w') (H.stp hb) hg)
  clear h0 hg
  unfold akV at HG ⊢
  clear H
  go_enter Tryz.func8, Tryz.ntmps8
  go_wp2_with fail
  refine Hh.out.mono ?_
  rintro e w1 ⟨rfl, hO⟩
  obtain ⟨d0, d1, d2, d3, d4, d5, d6, d7, d8, d9, d10, d11, d12, d13⟩ := akCells hO
  go_wp2_with fail
  refine (HG _ hO.toBelow).out.mono ?_
  rintro e w2 ⟨rfl, hB⟩
  have hO := hO.below hB
  clear hB HG Hh d0 d1 d2 d3 d4 d5 d6 d7 d8 d9 d10 d11 d12 d13
  have HB := Lib.hid hO.toBelow
  clear hO
  go_wp2_with fail
  go_ret
  exact ⟨rfl, HB.out⟩
set_option maxHeartbeats 20000000 in
theorem AdmitBack_main (W : World) (x : Ak) {vp vl vb va vk : Value} (H : AkAt W x vp vl vb va vk) (hg : GoodA x) :
    Calls Tryz.prog 8 #[akV x vp vl vb va vk] W fun e w' => e = .returned (.bool true) ∧ Below W.heap.size W w' := by
  obtain ⟨pp, cp, rfl⟩ := H.p.slice
  obtain ⟨pl, cl, rfl⟩ := H.l.slice
  have h0 := (Own.start W).new (akO x (.slice pp x.c.ps.length cp) (.slice pl x.c.ls.length cl) vb va vk)
  have Hh := Lib.hid (head12_any h0)
  have hr := hg.rt
  have hl40 := hg.l
  have hwfx := H.wf
  have HG := fun w' (hb : Stp W w') => Lib.hid (aGood_yes (w := w') (H.stp hb) hg)
  have HOf := fun w' (hb : Stp W w') => Lib.hid (aOf_any (w := w') (H.stp hb) hr)
  have HWd := fun w L (h : Own W NoF L w) => Lib.hid (aWords_any H hg h)
  have HNw := fun w L (h : Own W NoF L w) => Lib.hid (adNew_any (W := W) (L := L) (w := w) x.p (Ak.p_ok hr) H.p H.l h)
  have Hp := Lib.hid H.p
  have Hl := Lib.hid H.l
  have Hr := Lib.hid hr
  have Hdw := Lib.hid (akW_dw x hr hwfx)
  have hn0 := hr.n0
  have hn1 := hr.n1
  have HTy := Lib.hid (show Ak.p x = ⟨x.c, x.v, x.k, x.t⟩ from rfl)
  clear h0 hg hr hwfx
  unfold akV at HG HOf HWd ⊢
  clear H
  go_enter Tryz.func8, Tryz.ntmps8
  go_wp2_with fail
  refine Hh.out.mono ?_
  rintro e w1 ⟨rfl, hO⟩
  obtain ⟨d0, d1, d2, d3, d4, d5, d6, d7, d8, d9, d10, d11, d12, d13⟩ := akCells hO
  go_wp2_with fail
  refine (HG _ hO.toBelow).out.mono ?_
  rintro e w2 ⟨rfl, hB⟩
  have hO := hO.below hB
  clear hB HG Hh d0 d1 d2 d3 d4 d5 d6 d7 d8 d9 d10 d11 d12 d13
  obtain ⟨d0, d1, d2, d3, d4, d5, d6, d7, d8, d9, d10, d11, d12, d13⟩ := akCells hO
  go_wp2_with fail
  refine (HOf _ hO.toBelow).out.mono ?_
  rintro e w3 ⟨rfl, hB⟩
  have hO := hO.below hB
  clear hB HOf d0 d1 d2 d3 d4 d5 d6 d7 d8 d9 d10 d11 d12 d13
  obtain ⟨d0, d1, d2, d3, d4, d5, d6, d7, d8, d9, d10, d11, d12, d13⟩ := akCells hO
  go_wp2_with fail
  refine (HWd _ _ hO).out.mono ?_
  rintro e w4 ⟨vw, rfl, hO⟩
  clear HWd d0 d1 d2 d3 d4 d5 d6 d7 d8 d9 d10 d11 d12 d13
  have hlen0 := akA_len x (akRA x)
  obtain ⟨ws, hws⟩ : ∃ ws, ws = akW x := ⟨_, rfl⟩
  rw [← hws] at hO Hdw
  have HLn := Lib.hid (show ws.length = sizeN x.c from by rw [hws]; exact hlen0)
  rw [← HLn.out] at hO
  have Hws := Lib.hid hws
  have hlen : 2 ≤ ws.length ∧ ws.length ≤ 400 := by
    have h1 := sizeN_bd Hr.out
    have h2 := (ti_nat Hr.out).2.1
    have h3 := HLn.out
    unfold sizeN at h1 h3
    omega
  clear hlen0 hws
  have HLd := Lib.hid (pLaid_any (by omega) (by omega) hO)
  clear hO
  go_wp2_with fail
  refine HLd.out.mono ?_
  rintro e w5 ⟨m, rfl, hO⟩
  clear HLd
  obtain ⟨d0, d1, d2, d3, d4, d5, d6, d7, d8, d9, d10, d11, d12, d13⟩ := akCells hO.p2
  have HN := HNw _ _ hO
  rw [HTy.out] at HN
  simp only at HN
  clear hO
  go_wp2_with fail
  refine HN.out.mono ?_
  rintro e w6 ⟨g, rfl, hO⟩
  rw [← HTy.out] at hO
  clear HN HNw d0 d1 d2 d3 d4 d5 d6 d7 d8 d9 d10 d11 d12 d13
  obtain ⟨p, hpp⟩ : ∃ p, p = Ak.p x := ⟨_, rfl⟩
  rw [← hpp] at hO
  have hpo : p.Ok := by rw [hpp]; exact Ak.p_ok Hr.out
  have hpc : p.c = x.c := by rw [hpp]; rfl
  have HPP := Lib.hid hpp
  have hdw : DW p.c 1099511627776 ws := by rw [hpc]; exact Hdw.out
  have HPl := Lib.hid (Ad_play (vp := .slice pp x.c.ps.length cp) (vl := .slice pl x.c.ls.length cl) g m p 1099511627776 (by decide) (.slice none 0 0) (s0D p) ws [] [] 3000 0 (by decide) (by decide) (pksAt_nil _) (by decide) (by rw [hpc]; exact Hp.out) (by rw [hpc]; exact Hl.out) hpo (fun t B ws _ h => by rw [pokesAt_nil]; exact h) hdw (s0D_ok hpo _) (Nat.zero_le _) hO)
  obtain ⟨n, s', ws', lg', eP, hE, hLft, hAl⟩ := admit_alone (M := adM (.slice pp x.c.ps.length cp) (.slice pl x.c.ls.length cl) g p) (fun _ _ _ => rfl) hpo (by decide) hdw 3000 (by decide)
  rw [show (3000 : Int).toNat = 3000 from rfl, eP] at HPl
  clear hO eP hdw
  go_wp2_with fail
  refine HPl.out.mono ?_
  rintro e w8 ⟨rfl, hO⟩
  have hO : Own W NoF (adA (.slice pp x.c.ps.length cp) (.slice pl x.c.ls.length cl) g p s' :: memA 110 m ws' lg' :: row vw 3 1 ws.length (intC ws) :: [blk W.heap.size (akO x (.slice pp x.c.ps.length cp) (.slice pl x.c.ls.length cl) vb va vk)]) w8 := hO
  clear HPl
  have hlz : ws'.length = ws.length := by rw [hE.w.len, hpc, ← HLn.out]
  have HWz := Lib.hid (Words_any (by omega) hO.swap)
  clear hO
  go_wp2_with fail
  refine HWz.out.mono ?_
  rintro e w9 ⟨vz, rfl, hO⟩
  rw [hlz] at hO
  clear HWz
  obtain ⟨rz, oz, cz, hvz, -⟩ := (hO.intsN (zs := ws') hlz).at (by omega)
  rw [hlz] at hvz
  subst hvz
  obtain ⟨rw_, ow, cw, rfl, -⟩ := hO.p3.intsAt.at (by omega)
  have g10 : ((ws.length : Int) != (ws.length : Int)) = false := by simp
  have hpx : p = x.p := HPP.out
  rw [hpx, Hws.out] at hAl
  rw [hpx] at hE
  have hLf2 := hLft
  rw [hpx, Hws.out] at hLf2
  have hti := ti_nat Hr.out
  have HBk := Lib.hid (fun (he : s'.er = 4) => alone_back Hr.out hAl hE (fun u hu => hLf2 u hu) he)
  rw [← Hws.out] at HBk
  have HTk := fun (k : Nat) (hk : k < x.c.ti.toNat) w' => (show Calls Tryz.prog 28 #[cfV x.c (.slice pp x.c.ps.length cp) (.slice pl x.c.ls.length cl), .int .i64 k] w' fun e w'' => e = .returned (.int .i64 (tkN x.c k)) ∧ Below w'.heap.size w' w'' from by
    have h := rTicket_q (pp := pp) (np := x.c.ps.length) (cp := cp) (pl := pl) (nl := x.c.ls.length) (cl := cl) x.c Hr.out.sm hn1 (k : Int) (by omega) (by omega) w'
    rw [limN_eq Hr.out.sm] at h
    rw [show ((tkN x.c k : Nat) : Int) = (limN x.c x.c.ps.length : Int) + 2 * (k : Int) from by unfold tkN; omega]
    exact h)
  have HTin := Lib.hid (fun (k : Nat) (hk : k < x.c.ti.toNat) => show tkN x.c k + 1 < ws.length from by rw [HLn.out]; unfold tkN sizeN; omega)
  have HE := Lib.hid hE
  have HLz := Lib.hid hlz
  have HTI := Lib.hid hti
  have HA := fun w' (h : Own W NoF (row (.slice (some ⟨rz, oz, none⟩) ws.length cz) 3 1 ws.length (intC ws') :: memA 110 m ws' lg' :: adA (.slice pp x.c.ps.length cp) (.slice pl x.c.ls.length cl) g p s' :: row (.slice (some ⟨rw_, ow, none⟩) ws.length cw) 3 1 ws.length (intC ws) :: [blk W.heap.size (akO x (.slice pp x.c.ps.length cp) (.slice pl x.c.ls.length cl) vb va vk)]) w') => Lib.hid (adAns_any h.p2)
  obtain ⟨z1, z2, z3⟩ := ad_shut hE.shut
  rw [z1, z2, z3] at HA
  unfold ansV at HA
  have qe := ans12E s'.er s'.an false s'.nd
  have HA1 := HA _ hO
  have HO1 := Lib.hid hO
  clear hO hAl hE hlz hpx hLft hLf2 hti hpo hpc HPP HTy z1 z2 z3 HA
  have hti16 : 1 ≤ x.c.ti ∧ x.c.ti ≤ 16 := by have := HTI.out; omega
  obtain ⟨ER, hER⟩ : ∃ ER, ER = s'.er := ⟨_, rfl⟩
  rw [← hER] at HBk qe HA1
  clear hER
  go_wp2_with fail
  refine HA1.out.mono ?_
  rintro e w10 ⟨rfl, hB⟩
  have HO := Lib.hid (HO1.out.below hB)
  clear HO1 HA1 hB
  by_cases he : ER = 4
  · subst he
    obtain ⟨⟨F, hF, hF0, hF1, hFn⟩, hN⟩ := HBk.out rfl
    have HFn := Lib.hid hFn
    have HN := Lib.hid hN
    have HF0 := Lib.hid hF0
    have HF1 := Lib.hid hF1
    have g0 : ((4 : Int) != 4) = false := by decide
    clear HBk hFn hN hF0 hF1
    obtain ⟨v1, v2, v3, v4⟩ := back_ver
    have hz0 := HE.out.w.wf (tkN x.c F)
    rw [HF1.out] at hz0
    have HV1 := fun w' => (show Calls Tryz.prog 36 #[.int .i64 (tnW (tnW 0 1) 0)] w' fun e w'' => e = .returned (.int .i64 2) ∧ Below w'.heap.size w' w'' from (rVersion_any (tnW (tnW 0 1) 0) (by unfold I64 at hz0; omega) (by unfold I64 at hz0; omega) w').mono fun e w'' h => ⟨by rw [← v1]; exact h.1, h.2 ▸ Below.refl _ _⟩)
    have HV0 := fun w' => (show Calls Tryz.prog 36 #[.int .i64 0] w' fun e w'' => e = .returned (.int .i64 0) ∧ Below w'.heap.size w' w'' from (rVersion_any 0 (by decide) (by decide) w').mono fun e w'' h => ⟨by rw [← v2]; exact h.1, h.2 ▸ Below.refl _ _⟩)
    have HSt := rState_any (tnW (tnW 0 1) 0) (by unfold I64 at hz0; unfold W64; omega)
    rw [v3] at HSt
    have g1 : (tnW (tnW 0 1) 0 != 0) = true := by rw [bne_iff_ne]; exact v4
    have hw2 : IntKind.i64.wrap ((0 : Int) + 2) = 2 := by decide
    have hw1 : IntKind.i64.wrap ((0 : Int) + 1) = 1 := by decide
    clear hz0 v1 v2 v3 v4
    generalize tnW (tnW 0 1) 0 = V2 at *
    go_wp2_with fail
    clear qe g0
    go_loopw [13, 14] (fun v13 v14 wr => ∃ i : Nat, i ≤ x.c.ti.toNat ∧ v14 = .int .i64 i ∧ v13 = .int .i64 (if F < i then 1 else 0) ∧ Own W NoF (row (.slice (some ⟨rz, oz, none⟩) ws.length cz) 3 1 ws.length (intC ws') :: memA 110 m ws' lg' :: adA (.slice pp x.c.ps.length cp) (.slice pl x.c.ls.length cl) g p s' :: row (.slice (some ⟨rw_, ow, none⟩) ws.length cw) 3 1 ws.length (intC ws) :: [blk W.heap.size (akO x (.slice pp x.c.ps.length cp) (.slice pl x.c.ls.length cl) vb va vk)]) wr) (fun v13 v14 _ => x.c.ti.toNat - (intOf v14).toNat)
    case atStart => exact ⟨0, Nat.zero_le _, rfl, by rw [if_neg (by omega)], HO.out⟩
    case round =>
      obtain ⟨i, hi, rfl, rfl, hO⟩ := hrel
      clear HO
      obtain ⟨d0, d1, d2, d3, d4, d5, d6, d7, d8, d9, d10, d11, d12, d13⟩ := akCells hO.p4
      by_cases hlt : i < x.c.ti.toNat
      · have g2 : (i : Int) < x.c.ti := by have := HTI.out; omega
        have hIn := HTin.out i hlt
        have x0 := row_cell hO HLz.out (tkN x.c i) (by omega)
        have x1 := row_cell hO.p3 rfl (tkN x.c i) (by omega)
        have HT1 := HTk i hlt
        have g3 : ((tkN x.c i : Nat) : Int) < (ws.length : Int) := by omega
        have HRG := Lib.hid (fun (d : Nat) (os : Array Obj) => hO.below (below_regrown wr d os))
        have C1 := fun d os => Calls.regrown_of (HT1 (Go.Sort.grow (redrawn wr d) os))
        have HW0 := Lib.hid (fun w' (h : Own W NoF (row (.slice (some ⟨rz, oz, none⟩) ws.length cz) 3 1 ws.length (intC ws') :: memA 110 m ws' lg' :: adA (.slice pp x.c.ps.length cp) (.slice pl x.c.ls.length cl) g p s' :: row (.slice (some ⟨rw_, ow, none⟩) ws.length cw) 3 1 ws.length (intC ws) :: [blk W.heap.size (akO x (.slice pp x.c.ps.length cp) (.slice pl x.c.ls.length cl) vb va vk)]) w') => And.intro (row_cell h HLz.out (tkN x.c i) (by omega)) (row_cell h.p3 rfl (tkN x.c i) (by omega)))
        by_cases hiF : i = F
        · subst hiF
          rw [HF1.out] at x0 HW0
          rw [HF0.out] at x1 HW0
          rw [if_neg (by omega)]
          generalize tkN x.c i = TK at *
          clear hO hIn HTk HTin
          go_wp2_with fail
          have k0 := cell_regrown d0
          have k1 := cell_regrown d1
          have k2 := cell_regrown d2
          have k3 := cell_regrown d3
          have k4 := cell_regrown d4
          have k5 := cell_regrown d5
          have k6 := cell_regrown d6
          have k7 := cell_regrown d7
          have k8 := cell_regrown x0
          have k9 := cell_regrown x1
          clear x0 x1 d0 d1 d2 d3 d4 d5 d6 d7 d8 d9 d10 d11 d12 d13
          try dsimp only [List.append]
          refine wp_region_quiet_below (by kernel_rfl) (by kernel_rfl) ?_
          repeat (go_big_quiet_step ((go_at_call 28; with_reducible exact C1 _ _)))
          refine wpQuiet_nil ?_
          intro _ hw'
          obtain ⟨⟨dq, osq⟩, hw''⟩ := hw'
          subst hw''
          have hO := HRG.out dq osq
          clear HRG C1 k0 k1 k2 k3 k4 k5 k6 k7 k8 k9
          generalize Go.Sort.grow (redrawn wr dq) osq = w11 at *
          obtain ⟨d0, d1, d2, d3, d4, d5, d6, d7, d8, d9, d10, d11, d12, d13⟩ := akCells hO.p4
          obtain ⟨x0, x1⟩ := HW0.out _ hO
          have HRG := Lib.hid (fun (d : Nat) (os : Array Obj) => hO.below (below_regrown w11 d os))
          have C1 := fun d os => Calls.regrown_of (HT1 (Go.Sort.grow (redrawn w11 d) os))
          have C2 := fun d os => Calls.regrown_of (HV1 (Go.Sort.grow (redrawn w11 d) os))
          have C3 := fun d os => Calls.regrown_of (HV0 (Go.Sort.grow (redrawn w11 d) os))
          have C4 := fun d os => Calls.regrown_of (HSt (Go.Sort.grow (redrawn w11 d) os))
          have g5 : ((2 : Int) != 2) = false := by decide
          have g6 : ((0 : Int) != 0) = false := by decide
          clear hO HT1 HV1 HV0 HSt HW0
          go_wp2_with fail
          have k0 := cell_regrown d0
          have k1 := cell_regrown d1
          have k2 := cell_regrown d2
          have k3 := cell_regrown d3
          have k4 := cell_regrown d4
          have k5 := cell_regrown d5
          have k6 := cell_regrown d6
          have k7 := cell_regrown d7
          have k8 := cell_regrown x0
          have k9 := cell_regrown x1
          clear x0 x1 d0 d1 d2 d3 d4 d5 d6 d7 d8 d9 d10 d11 d12 d13
          try dsimp only [List.append]
          refine wp_region_quiet_below (by kernel_rfl) (by kernel_rfl) ?_
          repeat (go_big_quiet_step (first | (go_at_call 28; with_reducible exact C1 _ _) | (go_at_call 39; with_reducible exact C4 _ _) | (go_at_call 36; with_reducible exact C2 _ _) | (go_at_call 36; with_reducible exact C3 _ _)))
          refine wpQuiet_nil ?_
          intro _ hw'
          obtain ⟨⟨dq, osq⟩, hw''⟩ := hw'
          subst hw''
          have HO2 := Lib.hid (HRG.out dq osq)
          clear HRG C1 C2 C3 C4 k0 k1 k2 k3 k4 k5 k6 k7 k8 k9
          go_wp2_with fail
          go_roundw
          case rel => exact ⟨i + 1, by omega, by go_num, by rw [if_pos (by omega)], HO2.out⟩
          case measure => simp [intOf]; omega
        · have e1 := HFn.out i hlt hiF
          rw [e1] at x0
          generalize ws.getD (tkN x.c i) 0 = y at *
          generalize tkN x.c i = TK at *
          have g4 : (y != y) = false := by simp
          have he2 : (if F < i then (1 : Int) else 0) = if F < i + 1 then 1 else 0 := by by_cases q : F < i <;> simp [q] <;> omega
          rw [he2]
          generalize hT : (if F < i + 1 then (1 : Int) else 0) = TU at *
          have HTU := Lib.hid hT
          clear hO hIn HTk HTin HW0 e1 he2 hT HV1 HV0 HSt HT1
          go_wp2_with fail
          have k0 := cell_regrown d0
          have k1 := cell_regrown d1
          have k2 := cell_regrown d2
          have k3 := cell_regrown d3
          have k4 := cell_regrown d4
          have k5 := cell_regrown d5
          have k6 := cell_regrown d6
          have k7 := cell_regrown d7
          have k8 := cell_regrown x0
          have k9 := cell_regrown x1
          clear x0 x1 d0 d1 d2 d3 d4 d5 d6 d7 d8 d9 d10 d11 d12 d13
          try dsimp only [List.append]
          refine wp_region_quiet_below (by kernel_rfl) (by kernel_rfl) ?_
          repeat (go_big_quiet_step ((go_at_call 28; with_reducible exact C1 _ _)))
          refine wpQuiet_nil ?_
          intro _ hw'
          obtain ⟨⟨dq, osq⟩, hw''⟩ := hw'
          subst hw''
          have HO2 := Lib.hid (HRG.out dq osq)
          clear HRG C1 k0 k1 k2 k3 k4 k5 k6 k7 k8 k9
          go_wp2_with fail
          go_roundw
          case rel => exact ⟨i + 1, by omega, by go_num, by rw [HTU.out], HO2.out⟩
          case measure => simp [intOf]; omega
      · have hiT : i = x.c.ti.toNat := by omega
        have g7 : ¬ (i : Int) < x.c.ti := by have := HTI.out; omega
        have g8 : decide ((i : Int) < x.c.ti) = false := decide_eq_false g7
        rw [if_pos (show F < i by omega)]
        clear hiT hi hlt
        have st := st_nat Hr.out
        have HWf := Lib.hid HE.out.w.wf
        have hle := Hr.out.le
        unfold Bd at hle
        have HLt := fun (u : Nat) (hu : u < x.c.ps.length) w' (h : Own W NoF (row (.slice (some ⟨rz, oz, none⟩) ws.length cz) 3 1 ws.length (intC ws') :: memA 110 m ws' lg' :: adA (.slice pp x.c.ps.length cp) (.slice pl x.c.ls.length cl) g p s' :: row (.slice (some ⟨rw_, ow, none⟩) ws.length cw) 3 1 ws.length (intC ws) :: [blk W.heap.size (akO x (.slice pp x.c.ps.length cp) (.slice pl x.c.ls.length cl) vb va vk)]) w') => Lib.hid (show Calls Tryz.prog 40 #[.pointer (some ⟨m, 0, none⟩), cfV x.c (.slice pp x.c.ps.length cp) (.slice pl x.c.ls.length cl), .int .i64 u] w' fun e w'' => e = .returned (.int .i64 (leftU x.c u ws)) ∧ Below w'.heap.size w' w'' from by
          have hn := HE.out.w.node u hu
          have hlt := limN_lt x.c hu
          have hmu := HE.out.mu
          have hl1 := HLn.out
          have hl2 := HLz.out
          unfold sizeN at hl1
          have h := Left_any (pp := pp) (np := x.c.ps.length) (cp := cp) (pl := pl) (nl := x.c.ls.length) (cl := cl) x.c Hr.out.sm (u : Int) (by omega) (by omega) (avN x.c u) x.c.st.toNat (by rw [limN_eq Hr.out.sm]; unfold avN; push_cast; rfl) st.1 (by unfold avN; omega) (by omega) (fun k hk => by
            rcases (show k = 0 ∨ ∃ j, k = j + 1 from by cases k with | zero => exact Or.inl rfl | succ j => exact Or.inr ⟨j, rfl⟩) with q | ⟨j, q⟩
            · subst q; have := (show 0 ≤ ws'.getD (avN x.c u) 0 ∧ ws'.getD (avN x.c u) 0 ≤ bt _ _ from hn.av); unfold bt at this; rw [Nat.add_zero]; omega
            · subst q; have := (show 0 ≤ ws'.getD (leN x.c u j) 0 ∧ ws'.getD (leN x.c u j) 0 ≤ x.c.le from hn.le j (show j < x.c.st.toNat by omega)); rw [show avN x.c u + (j + 1) = leN x.c u j by unfold avN leN; omega]; omega) h.swap
          rw [show leftP (avN x.c u) (lwN (avN x.c u)) x.c.st.toNat ws' = leftU x.c u ws from by
            rw [← (HN.out u hu).2.1]; unfold leftP leftU
            rw [sK_congr (f := fun i => ws'.getD (lwN (avN x.c u) i) 0) (g := fun i => ws'.getD (leN x.c u i) 0) _ (fun j _ => by show ws'.getD (lwN (avN x.c u) j) 0 = ws'.getD (leN x.c u j) 0; rw [show lwN (avN x.c u) j = leN x.c u j by unfold lwN avN leN; omega])]] at h
          exact h)
        have HLo := fun w' (h : Own W NoF (row (.slice (some ⟨rz, oz, none⟩) ws.length cz) 3 1 ws.length (intC ws') :: memA 110 m ws' lg' :: adA (.slice pp x.c.ps.length cp) (.slice pl x.c.ls.length cl) g p s' :: row (.slice (some ⟨rw_, ow, none⟩) ws.length cw) 3 1 ws.length (intC ws) :: [blk W.heap.size (akO x (.slice pp x.c.ps.length cp) (.slice pl x.c.ls.length cl) vb va vk)]) w') => Lib.hid (Log_b (by have := HE.out.len; have := HE.out.mu; omega) h.swap)
        have HOw := fun (u : Nat) (hu : u < x.c.ps.length) w' v (hv : LogAt w' v lg') => Lib.hid (show Calls Tryz.prog 26 #[cfV x.c (.slice pp x.c.ps.length cp) (.slice pl x.c.ls.length cl), v, .int .i64 u] w' fun e w'' => e = .returned (.int .i64 0) ∧ Below w'.heap.size w' w'' from by
          have h := aOwn_any (pp := pp) (cp := cp) (pl := pl) (cl := cl) Hr.out u hu (by have := HE.out.len; have := HE.out.mu; omega) hv
          rw [(HN.out u hu).1, show wrap64 0 = 0 by simp [wrap64]] at h; exact h)
        have HLe := fun (u : Nat) (hu : u < x.c.ps.length) w' (h : Own W NoF (row (.slice (some ⟨rz, oz, none⟩) ws.length cz) 3 1 ws.length (intC ws') :: memA 110 m ws' lg' :: adA (.slice pp x.c.ps.length cp) (.slice pl x.c.ls.length cl) g p s' :: row (.slice (some ⟨rw_, ow, none⟩) ws.length cw) 3 1 ws.length (intC ws) :: [blk W.heap.size (akO x (.slice pp x.c.ps.length cp) (.slice pl x.c.ls.length cl) vb va vk)]) w') => Lib.hid (aLeft_any (pp := pp) (cp := cp) (pl := pl) (cl := cl) Hr.out u hu HLn.out ⟨(Hdw.out.node u hu).av.1, by have := (Hdw.out.node u hu).av.2; omega⟩ (fun i hi => ⟨((Hdw.out.node u hu).le i hi).1, by have := ((Hdw.out.node u hu).le i hi).2; omega⟩) h.p3.intsAt)
        have HLU := Lib.hid (fun (u : Nat) (hu : u < x.c.ps.length) => show 0 ≤ leftU x.c u ws from leftU_pos (Hdw.out.node u hu))
        have HLV := Lib.hid (fun (u : Nat) (hu : u < x.c.ps.length) => show leftU x.c u ws ≤ 2000000000000 from by
          have h1 := (Hdw.out.node u hu).av.2
          have h2 := sK_bd (fun i => ws.getD (leN x.c u i) 0) x.c.st.toNat (fun i hi => ⟨((Hdw.out.node u hu).le i hi).1, by have := ((Hdw.out.node u hu).le i hi).2; omega⟩)
          unfold leftU; omega)
        have HCt := fun (u : Nat) (hu : u < x.c.ps.length) w' => (show Calls Tryz.prog 33 #[cfV x.c (.slice pp x.c.ps.length cp) (.slice pl x.c.ls.length cl), .int .i64 u] w' fun e w'' => e = .returned (.int .i64 (ctN x.c u)) ∧ Below w'.heap.size w' w'' from by
          have h := Counter_q (pp := pp) (np := x.c.ps.length) (cp := cp) (pl := pl) (nl := x.c.ls.length) (cl := cl) x.c Hr.out.sm (u : Int) (by omega) (by omega) w'
          rw [limN_eq Hr.out.sm, st.1] at h; unfold ctN; push_cast; push_cast at h; exact h)
        have HCin := Lib.hid (fun (u : Nat) (hu : u < x.c.ps.length) => show ctN x.c u + 4 + x.c.st.toNat ≤ ws.length ∧ ctN x.c u ≤ 1000 from by have h1 := HLn.out; have h2 := limN_lt x.c hu; unfold sizeN at h1; unfold ctN; omega)
        have HSm := fun (u : Nat) (hu : u < x.c.ps.length) w' (h : Own W NoF (row (.slice (some ⟨rz, oz, none⟩) ws.length cz) 3 1 ws.length (intC ws') :: memA 110 m ws' lg' :: adA (.slice pp x.c.ps.length cp) (.slice pl x.c.ls.length cl) g p s' :: row (.slice (some ⟨rw_, ow, none⟩) ws.length cw) 3 1 ws.length (intC ws) :: [blk W.heap.size (akO x (.slice pp x.c.ps.length cp) (.slice pl x.c.ls.length cl) vb va vk)]) w') => Lib.hid (show Calls Tryz.prog 32 #[.pointer (some ⟨m, 0, none⟩), .int .i64 (ctN x.c u), .int .i64 x.c.st] w' fun e w'' => e = .returned (.int .i64 0) ∧ Below w'.heap.size w' w'' from by
          have h := addSum_b (ctP x.c u 0) x.c.st.toNat st.1 st.2.1 st.2.2 (HCin.out u hu).2 (by have := (HCin.out u hu).1; have := HLz.out; show ctN x.c u + 4 + _ ≤ _; omega) (by have := HLz.out; omega) HWf.out h.swap
          rw [← st.1, (HN.out u hu).2.2, show wrap64 0 = 0 by simp [wrap64]] at h; exact h)
        have HO := Lib.hid hO
        clear hO HFn HF0 HF1 HV1 HV0 HSt HTk HTin hw1 hw2 g1 st hle
        go_wp2_with fail
        clear d0 d1 d2 d3 d4 d5 d6 d7 d8 d9 d10 d11 d12 d13
        go_loopw [15] (fun v15 wr => ∃ u : Nat, u ≤ x.c.ps.length ∧ v15 = .int .i64 u ∧ Own W NoF (row (.slice (some ⟨rz, oz, none⟩) ws.length cz) 3 1 ws.length (intC ws') :: memA 110 m ws' lg' :: adA (.slice pp x.c.ps.length cp) (.slice pl x.c.ls.length cl) g p s' :: row (.slice (some ⟨rw_, ow, none⟩) ws.length cw) 3 1 ws.length (intC ws) :: [blk W.heap.size (akO x (.slice pp x.c.ps.length cp) (.slice pl x.c.ls.length cl) vb va vk)]) wr) (fun v15 _ => x.c.ps.length - (intOf v15).toNat)
        case atStart => exact ⟨0, Nat.zero_le _, rfl, HO.out⟩
        case round =>
          obtain ⟨u, hu, rfl, hO⟩ := hrel
          clear HO
          obtain ⟨d0, d1, d2, d3, d4, d5, d6, d7, d8, d9, d10, d11, d12, d13⟩ := akCells hO.p4
          by_cases hlu : u < x.c.ps.length
          · have g1 : (u : Int) < (x.c.ps.length : Int) := by omega
            have L1 := HLt u hlu
            have L3 := HOw u hlu
            have L4 := HLe u hlu
            have L5 := HCt u hlu
            have L6 := HSm u hlu
            have hu0 := HLU.out u hlu
            have hu1 := HLV.out u hlu
            have hw : IntKind.i64.wrap (0 + leftU x.c u ws) = leftU x.c u ws := by rw [Int.zero_add]; exact IntWalk.i64_in _ (by omega)
            have hw3 : IntKind.i64.wrap (leftU x.c u ws) = leftU x.c u ws := IntWalk.i64_in _ (by omega)
            have g2 : (leftU x.c u ws != leftU x.c u ws) = false := by simp
            have g3 : ((0 : Int) != 0) = false := by decide
            generalize leftU x.c u ws = LU at *
            generalize ctN x.c u = CT at *
            have HO := Lib.hid hO.drew
            clear hO HLt HOw HLe HCt HSm HLU HLV hu0 hu1 d8 d9 d10 d11 d12 d13
            go_wp2_with fail
            try dsimp only [List.append]
            go_region_held3 (fun w' => w'.cell? ⟨W.heap.size, 0, none⟩ = some (.int .i64 x.c.th) ∧ w'.cell? ⟨W.heap.size, 1, none⟩ = some (.int .i64 x.c.st) ∧ w'.cell? ⟨W.heap.size, 2, none⟩ = some (.int .i64 x.c.ga) ∧ w'.cell? ⟨W.heap.size, 3, none⟩ = some (.int .i64 x.c.le) ∧ w'.cell? ⟨W.heap.size, 4, none⟩ = some (.int .i64 x.c.re) ∧ w'.cell? ⟨W.heap.size, 5, none⟩ = some (.int .i64 x.c.ti) ∧ w'.cell? ⟨W.heap.size, 6, none⟩ = some (.slice pp x.c.ps.length cp) ∧ w'.cell? ⟨W.heap.size, 7, none⟩ = some (.slice pl x.c.ls.length cl)) (go_keep)
              (first
                | (go_at_call 40; refine (L1 _ HO.out).out.mono ?_; rintro e w20 ⟨rfl, hB⟩; have HO := Lib.hid (HO.out.below hB); have d0 := Stp.cell hB d0; have d1 := Stp.cell hB d1; have d2 := Stp.cell hB d2; have d3 := Stp.cell hB d3; have d4 := Stp.cell hB d4; have d5 := Stp.cell hB d5; have d6 := Stp.cell hB d6; have d7 := Stp.cell hB d7; clear hB)
                | (go_at_call 22; refine (HLo _ HO.out).out.mono ?_; rintro e w21 ⟨v21, rfl, hA⟩; have hB := hA.toBelow; have H9 := L3 _ _ hA.logAt; clear hA; have HO := Lib.hid (HO.out.below hB); have d0 := Stp.cell hB d0; have d1 := Stp.cell hB d1; have d2 := Stp.cell hB d2; have d3 := Stp.cell hB d3; have d4 := Stp.cell hB d4; have d5 := Stp.cell hB d5; have d6 := Stp.cell hB d6; have d7 := Stp.cell hB d7; clear hB)
                | (go_at_call 26; refine H9.out.mono ?_; rintro e w22 ⟨rfl, hB⟩; have HO := Lib.hid (HO.out.below hB); have d0 := Stp.cell hB d0; have d1 := Stp.cell hB d1; have d2 := Stp.cell hB d2; have d3 := Stp.cell hB d3; have d4 := Stp.cell hB d4; have d5 := Stp.cell hB d5; have d6 := Stp.cell hB d6; have d7 := Stp.cell hB d7; clear hB)
                | (go_at_call 42; refine (L4 _ HO.out).out.mono ?_; rintro e w23 ⟨rfl, hB⟩; have HO := Lib.hid (HO.out.below hB); have d0 := Stp.cell hB d0; have d1 := Stp.cell hB d1; have d2 := Stp.cell hB d2; have d3 := Stp.cell hB d3; have d4 := Stp.cell hB d4; have d5 := Stp.cell hB d5; have d6 := Stp.cell hB d6; have d7 := Stp.cell hB d7; clear hB)
                | (go_at_call 33; refine (L5 _).mono ?_; rintro e w24 ⟨rfl, hB⟩; have HO := Lib.hid (HO.out.below hB); have d0 := Stp.cell hB d0; have d1 := Stp.cell hB d1; have d2 := Stp.cell hB d2; have d3 := Stp.cell hB d3; have d4 := Stp.cell hB d4; have d5 := Stp.cell hB d5; have d6 := Stp.cell hB d6; have d7 := Stp.cell hB d7; clear hB)
                | (go_at_call 32; refine (L6 _ HO.out).out.mono ?_; rintro e w25 ⟨rfl, hB⟩; have HO := Lib.hid (HO.out.below hB); have d0 := Stp.cell hB d0; have d1 := Stp.cell hB d1; have d2 := Stp.cell hB d2; have d3 := Stp.cell hB d3; have d4 := Stp.cell hB d4; have d5 := Stp.cell hB d5; have d6 := Stp.cell hB d6; have d7 := Stp.cell hB d7; clear hB))
            all_goals
              have HO2 := HO
              clear HO d0 d1 d2 d3 d4 d5 d6 d7
              go_wp2_with fail
              go_roundw
              case rel => exact ⟨_, Nat.succ_le_of_lt hlu, by go_num, HO2.out⟩
              case measure => simp [intOf]; omega
          · obtain rfl : u = x.c.ps.length := by omega
            have HO := Lib.hid hO
            clear hO HLt HOw HLe HCt HSm HLU HLV HLo
            go_wp2_with fail
            go_ret
            exact ⟨rfl, HO.out.toBelow⟩
  · have g0 : (ER != 4) = true := by rw [bne_iff_ne]; exact he
    clear HBk
    go_wp2_with fail
    go_ret
    exact ⟨rfl, HO.out.toBelow⟩
theorem AdmitBack_calls (W : World) (x : Ak) (vp vl vb va vk : Value) (hwd : Wide x.c) (hwf : x.Wf) (hp : IntsAt W .i64 vp x.c.ps) (hl : IntsAt W .i64 vl x.c.ls) (hb : BlsAt W vb x.bs) (ha : IntsAt W .u32 va x.av) (hk : PksAt W vk x.l) :
    Calls Tryz.prog 8 #[akV x vp vl vb va vk] W fun e w' => e = .returned (.bool true) ∧ Below W.heap.size W w' := by
  by_cases hg : GoodA x
  · exact AdmitBack_main W x ⟨hwd, hwf, hp, hl, hb, ha, hk⟩ hg
  · exact AdmitBack_bad W x ⟨hwd, hwf, hp, hl, hb, ha, hk⟩ hg
end Go.Proofs.YtjohngpbggendaaGreat
