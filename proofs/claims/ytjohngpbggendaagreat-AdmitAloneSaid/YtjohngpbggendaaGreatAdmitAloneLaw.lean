/- AdmitAlone. Written by tools/gen_admit*.py. -/
import Derived.Test.YtjohngpbggendaaGreatB14
import Derived.Test.YtjohngpbggendaaGreatB20
import Derived.Test.YtjohngpbggendaaGreatB22
import Derived.Test.YtjohngpbggendaaGreatB23
import Derived.Test.YtjohngpbggendaaGreatB42
import Derived.Test.YtjohngpbggendaaGreatB46
import Derived.Test.YtjohngpbggendaaGreatB48
import Derived.Test.YtjohngpbggendaaGreatB49
import Derived.Lib.QuietBelow
import Derived.Deep.RegionWith
namespace Go.Proofs.YtjohngpbggendaaGreat
open Go.ChangeShapes Go.WideShapes Go.ChangeAt Go.RowKit Go.Shelf
set_option linter.unusedVariables false
set_option linter.unusedSimpArgs false
set_option maxRecDepth 100000
theorem ans12Q (e n q : Int) (w : World) : (binOp .eql 53 (.agg #[.int .i64 e, .int .i64 n, .bool false, .int .i64 q]) (.agg #[.int .i64 e, .int .i64 n, .bool false, .int .i64 q])).run Tryz.prog w = .ok (.bool true) w := ans_refl e n false q w
theorem AdmitAlone_bad (W : World) (x : Ak) {vp vl vb va vk : Value} (H : AkAt W x vp vl vb va vk) (hg : ¬ GoodA x) :
    Calls Tryz.prog 5 #[akV x vp vl vb va vk] W fun e w' => e = .returned (.bool true) ∧ Below W.heap.size W w' := by
  obtain ⟨pp, cp, rfl⟩ := H.p.slice
  obtain ⟨pl, cl, rfl⟩ := H.l.slice
  have h0 := (Own.start W).new (akO x (.slice pp x.c.ps.length cp) (.slice pl x.c.ls.length cl) vb va vk)
  have Hh := Lib.hid (head12_any h0)
  have HG := fun w' (hb : Stp W w') => Lib.hid (aGood_no (w := w') (H.stp hb) hg)
  clear h0 hg
  unfold akV at HG ⊢
  clear H
  go_enter Tryz.func5, Tryz.ntmps5
  go_wp2_with fail
  refine Hh.out.mono ?_
  rintro e w1 ⟨rfl, hO⟩
  obtain ⟨d0, d1, d2, d3, d4, d5, d6, d7, d8, d9, d10, d11, d12, d13⟩ := akCells hO
  go_wp2_with fail
  refine (HG _ hO.toBelow).out.mono ?_
  rintro e w2 ⟨rfl, hB⟩
  have hO := hO.below hB
  clear hB HG Hh d0 d1 d2 d3 d4 d5 d6 d7 d8 d9 d10 d11 d12 d13
  have HB := Lib.hid hO.toBelow
  clear hO
  go_wp2_with fail
  go_ret
  exact ⟨rfl, HB.out⟩
set_option maxHeartbeats 20000000 in
theorem AdmitAlone_main (W : World) (x : Ak) {vp vl vb va vk : Value} (H : AkAt W x vp vl vb va vk) (hg : GoodA x) :
    Calls Tryz.prog 5 #[akV x vp vl vb va vk] W fun e w' => e = .returned (.bool true) ∧ Below W.heap.size W w' := by
  obtain ⟨pp, cp, rfl⟩ := H.p.slice
  obtain ⟨pl, cl, rfl⟩ := H.l.slice
  have h0 := (Own.start W).new (akO x (.slice pp x.c.ps.length cp) (.slice pl x.c.ls.length cl) vb va vk)
  have Hh := Lib.hid (head12_any h0)
  have hr := hg.rt
  have hl40 := hg.l
  have hwfx := H.wf
  have HG := fun w' (hb : Stp W w') => Lib.hid (aGood_yes (w := w') (H.stp hb) hg)
  have HOf := fun w' (hb : Stp W w') => Lib.hid (aOf_any (w := w') (H.stp hb) hr)
  have HWd := fun w L (h : Own W NoF L w) => Lib.hid (aWords_any H hg h)
  have HNw := fun w L (h : Own W NoF L w) => Lib.hid (adNew_any (W := W) (L := L) (w := w) x.p (Ak.p_ok hr) H.p H.l h)
  have Hp := Lib.hid H.p
  have Hl := Lib.hid H.l
  have Hr := Lib.hid hr
  have Hdw := Lib.hid (akW_dw x hr hwfx)
  have hn0 := hr.n0
  have hn1 := hr.n1
  have HTy := Lib.hid (show Ak.p x = ⟨x.c, x.v, x.k, x.t⟩ from rfl)
  clear h0 hg hr hwfx
  unfold akV at HG HOf HWd ⊢
  clear H
  go_enter Tryz.func5, Tryz.ntmps5
  go_wp2_with fail
  refine Hh.out.mono ?_
  rintro e w1 ⟨rfl, hO⟩
  obtain ⟨d0, d1, d2, d3, d4, d5, d6, d7, d8, d9, d10, d11, d12, d13⟩ := akCells hO
  go_wp2_with fail
  refine (HG _ hO.toBelow).out.mono ?_
  rintro e w2 ⟨rfl, hB⟩
  have hO := hO.below hB
  clear hB HG Hh d0 d1 d2 d3 d4 d5 d6 d7 d8 d9 d10 d11 d12 d13
  obtain ⟨d0, d1, d2, d3, d4, d5, d6, d7, d8, d9, d10, d11, d12, d13⟩ := akCells hO
  go_wp2_with fail
  refine (HOf _ hO.toBelow).out.mono ?_
  rintro e w3 ⟨rfl, hB⟩
  have hO := hO.below hB
  clear hB HOf d0 d1 d2 d3 d4 d5 d6 d7 d8 d9 d10 d11 d12 d13
  obtain ⟨d0, d1, d2, d3, d4, d5, d6, d7, d8, d9, d10, d11, d12, d13⟩ := akCells hO
  go_wp2_with fail
  refine (HWd _ _ hO).out.mono ?_
  rintro e w4 ⟨vw, rfl, hO⟩
  clear HWd d0 d1 d2 d3 d4 d5 d6 d7 d8 d9 d10 d11 d12 d13
  have hlen0 := akA_len x (akRA x)
  obtain ⟨ws, hws⟩ : ∃ ws, ws = akW x := ⟨_, rfl⟩
  rw [← hws] at hO Hdw
  have HLn := Lib.hid (show ws.length = sizeN x.c from by rw [hws]; exact hlen0)
  rw [← HLn.out] at hO
  have Hws := Lib.hid hws
  have hlen : 2 ≤ ws.length ∧ ws.length ≤ 400 := by
    have h1 := sizeN_bd Hr.out
    have h2 := (ti_nat Hr.out).2.1
    have h3 := HLn.out
    unfold sizeN at h1 h3
    omega
  clear hlen0 hws
  have HLd := Lib.hid (pLaid_any (by omega) (by omega) hO)
  clear hO
  go_wp2_with fail
  refine HLd.out.mono ?_
  rintro e w5 ⟨m, rfl, hO⟩
  clear HLd
  obtain ⟨d0, d1, d2, d3, d4, d5, d6, d7, d8, d9, d10, d11, d12, d13⟩ := akCells hO.p2
  have HN := HNw _ _ hO
  rw [HTy.out] at HN
  simp only at HN
  clear hO
  go_wp2_with fail
  refine HN.out.mono ?_
  rintro e w6 ⟨g, rfl, hO⟩
  rw [← HTy.out] at hO
  clear HN HNw d0 d1 d2 d3 d4 d5 d6 d7 d8 d9 d10 d11 d12 d13
  obtain ⟨p, hpp⟩ : ∃ p, p = Ak.p x := ⟨_, rfl⟩
  rw [← hpp] at hO
  have hpo : p.Ok := by rw [hpp]; exact Ak.p_ok Hr.out
  have hpc : p.c = x.c := by rw [hpp]; rfl
  have HPP := Lib.hid hpp
  have hdw : DW p.c 1099511627776 ws := by rw [hpc]; exact Hdw.out
  have HPl := Lib.hid (Ad_play (vp := .slice pp x.c.ps.length cp) (vl := .slice pl x.c.ls.length cl) g m p 1099511627776 (by decide) (.slice none 0 0) (s0D p) ws [] [] 3000 0 (by decide) (by decide) (pksAt_nil _) (by decide) (by rw [hpc]; exact Hp.out) (by rw [hpc]; exact Hl.out) hpo (fun t B ws _ h => by rw [pokesAt_nil]; exact h) hdw (s0D_ok hpo _) (Nat.zero_le _) hO)
  obtain ⟨n, s', ws', lg', eP, hE, hLft, hAl⟩ := admit_alone (M := adM (.slice pp x.c.ps.length cp) (.slice pl x.c.ls.length cl) g p) (fun _ _ _ => rfl) hpo (by decide) hdw 3000 (by decide)
  rw [show (3000 : Int).toNat = 3000 from rfl, eP] at HPl
  clear hO eP hdw
  go_wp2_with fail
  refine HPl.out.mono ?_
  rintro e w8 ⟨rfl, hO⟩
  have hO : Own W NoF (adA (.slice pp x.c.ps.length cp) (.slice pl x.c.ls.length cl) g p s' :: memA 110 m ws' lg' :: row vw 3 1 ws.length (intC ws) :: [blk W.heap.size (akO x (.slice pp x.c.ps.length cp) (.slice pl x.c.ls.length cl) vb va vk)]) w8 := hO
  clear HPl
  have hlz : ws'.length = ws.length := by rw [hE.w.len, hpc, ← HLn.out]
  have HWz := Lib.hid (Words_any (by omega) hO.swap)
  clear hO
  go_wp2_with fail
  refine HWz.out.mono ?_
  rintro e w9 ⟨vz, rfl, hO⟩
  rw [hlz] at hO
  clear HWz
  obtain ⟨rz, oz, cz, hvz, -⟩ := (hO.intsN (zs := ws') hlz).at (by omega)
  rw [hlz] at hvz
  subst hvz
  obtain ⟨rw_, ow, cw, rfl, -⟩ := hO.p3.intsAt.at (by omega)
  have g10 : ((ws.length : Int) != (ws.length : Int)) = false := by simp
  have hpx : p = x.p := HPP.out
  rw [hpx, Hws.out] at hAl
  have hti := ti_nat Hr.out
  have HCy := Lib.hid (fun J hJ hf => Fst.yes (p := x.p.cp) (ws := akW x) (J := J) hJ hf)
  have HCn := Lib.hid (fun J F h hf => Fst.no (p := x.p.cp) (ws := akW x) (J := J) (F := F) h hf)
  have HFr := Lib.hid (fun i => show freeC x.p.cp (akW x) i ↔ ws.getD (tkN x.c (x.p.cp.tic i)) 0 = 0 from by rw [Hws.out]; exact ak_free x Hr.out i)
  have HF0 := Lib.hid (show Fst x.p.cp (akW x) x.c.ti.toNat (-1) from Fst.start x.p.cp (akW x))
  have HTic := Lib.hid (fun J => show x.p.cp.tic J < x.c.ti.toNat ∧ (x.p.cp.tic J : Int) = ((x.t : Int) + J) % x.c.ti from ⟨tic_lt (DP.cp_ok (Ak.p_ok Hr.out)) J, by
    show (((x.t + J) % x.c.ti.toNat : Nat) : Int) = _
    rw [Int.natCast_emod, ← hti.1]; simp⟩)
  have HTk := fun (k : Nat) (hk : k < x.c.ti.toNat) w' => (show Calls Tryz.prog 28 #[cfV x.c (.slice pp x.c.ps.length cp) (.slice pl x.c.ls.length cl), .int .i64 k] w' fun e w'' => e = .returned (.int .i64 (tkN x.c k)) ∧ Below w'.heap.size w' w'' from by
    have h := rTicket_q (pp := pp) (np := x.c.ps.length) (cp := cp) (pl := pl) (nl := x.c.ls.length) (cl := cl) x.c Hr.out.sm hn1 (k : Int) (by omega) (by omega) w'
    rw [limN_eq Hr.out.sm] at h
    rw [show ((tkN x.c k : Nat) : Int) = (limN x.c x.c.ps.length : Int) + 2 * (k : Int) from by unfold tkN; omega]
    exact h)
  have HTin := Lib.hid (fun (k : Nat) (hk : k < x.c.ti.toNat) => show tkN x.c k + 1 < ws.length from by rw [HLn.out]; unfold tkN sizeN; omega)
  have HAl := Lib.hid hAl
  have HE := Lib.hid hE
  have HLz := Lib.hid hlz
  have HTI := Lib.hid hti
  have HO1 := Lib.hid hO
  clear hO hAl hE hlz hpx hLft hti hpo hpc HPP HTy Hdw
  have ht1 := (Ak.t_bd (x := x)).1
  obtain ⟨d0, d1, d2, d3, d4, d5, d6, d7, d8, d9, d10, d11, d12, d13⟩ := akCells HO1.out.p4
  have htz : ¬ x.c.ti = 0 := by have := HTI.out; omega
  have hti16 : 1 ≤ x.c.ti ∧ x.c.ti ≤ 16 := by have := HTI.out; omega
  go_wp2_with fail
  clear d0 d1 d2 d3 d4 d5 d6 d7 d8 d9 d10 d11 d12 d13
  go_loopw [13, 14, 15] (fun v13 v14 v15 wr => ∃ (j F : Int), -1 ≤ j ∧ j < x.c.ti ∧ v14 = .int .i64 j ∧ v13 = .int .i64 F ∧ -1 ≤ F ∧ F < x.c.ti ∧ Fst x.p.cp (akW x) (j + 1).toNat F ∧ Own W NoF (row (.slice (some ⟨rz, oz, none⟩) ws.length cz) 3 1 ws.length (intC ws') :: memA 110 m ws' lg' :: adA (.slice pp x.c.ps.length cp) (.slice pl x.c.ls.length cl) g p s' :: row (.slice (some ⟨rw_, ow, none⟩) ws.length cw) 3 1 ws.length (intC ws) :: [blk W.heap.size (akO x (.slice pp x.c.ps.length cp) (.slice pl x.c.ls.length cl) vb va vk)]) wr) (fun v13 v14 v15 _ => (intOf v14 + 1).toNat)
  case atStart => exact ⟨x.c.ti - 1, -1, by omega, by omega, by go_num, rfl, by omega, by omega, by rw [show (x.c.ti - 1 + 1).toNat = x.c.ti.toNat by omega]; exact HF0.out, HO1.out⟩
  case round =>
    obtain ⟨j, F, hj0, hj1, rfl, rfl, hF0, hF1, hFst, hO⟩ := hrel
    clear HO1
    obtain ⟨d0, d1, d2, d3, d4, d5, d6, d7, d8, d9, d10, d11, d12, d13⟩ := akCells hO.p4
    by_cases hj : 0 ≤ j
    · obtain ⟨J, rfl⟩ : ∃ J : Nat, j = J := ⟨j.toNat, by omega⟩
      obtain ⟨q1, q2⟩ := HTic.out J
      have hJt : J < x.c.ti.toNat := by omega
      have HY := Lib.hid (HCy.out J hJt)
      have HN := Lib.hid (HCn.out J F (by rw [show ((J : Int) + 1).toNat = J + 1 by omega] at hFst; exact hFst))
      have HFJ := Lib.hid (HFr.out J)
      generalize x.p.cp.tic J = K at *
      have hTk := fun w' => Lib.hid (HTk K q1 w')
      have hIn := HTin.out K q1
      have x0 := fun w' (h : Own W NoF (row (.slice (some ⟨rz, oz, none⟩) ws.length cz) 3 1 ws.length (intC ws') :: memA 110 m ws' lg' :: adA (.slice pp x.c.ps.length cp) (.slice pl x.c.ls.length cl) g p s' :: row (.slice (some ⟨rw_, ow, none⟩) ws.length cw) 3 1 ws.length (intC ws) :: [blk W.heap.size (akO x (.slice pp x.c.ps.length cp) (.slice pl x.c.ls.length cl) vb va vk)]) w') => row_cell h.p3 rfl (tkN x.c K) (by omega)
      have etm : ((x.t : Int) + J).tmod x.c.ti = K := by rw [q2]; exact Int.tmod_eq_emod_of_nonneg (by omega)
      have g1 : ((tkN x.c K : Nat) : Int) < (ws.length : Int) := by omega
      have HO := Lib.hid hO
      have HFs := Lib.hid hFst
      clear hO hFst q2 hIn
      generalize hTN : tkN x.c K = TN at *
      clear hTN
      go_wp2_with fail
      refine (hTk _).out.mono ?_
      rintro e w10 ⟨rfl, hB⟩
      have hO := HO.out.below hB
      have x1 := x0 _ hO
      have HO2 := Lib.hid hO
      clear hB HO hTk hO x0 d0 d1 d2 d3 d4 d5 d6 d7 d8 d9 d10 d11 d12 d13
      generalize ws.getD TN 0 = y at *
      by_cases hy : y = 0
      · have g2 : (y == 0) = true := by rw [beq_iff_eq]; exact hy
        have HFF := Lib.hid (HY.out (HFJ.out.2 hy))
        clear hy HN HY HFJ
        go_wp2_with fail
        go_roundw
        case rel => exact ⟨(J : Int) - 1, K, by omega, by omega, by go_num, rfl, by omega, by omega, by rw [show ((J : Int) - 1 + 1).toNat = J by omega]; exact HFF.out, HO2.out⟩
        case measure => simp [intOf]
      · have g2 : (y == 0) = false := by rw [beq_eq_false_iff_ne]; exact hy
        have HFF := Lib.hid (HN.out (fun q => hy (HFJ.out.1 q)))
        clear HN HY HFJ
        go_wp2_with fail
        go_roundw
        case rel => exact ⟨(J : Int) - 1, F, by omega, by omega, by go_num, rfl, by omega, by omega, by rw [show ((J : Int) - 1 + 1).toNat = J by omega]; exact HFF.out, HO2.out⟩
        case measure => simp [intOf]
    · obtain rfl : j = -1 := by omega
      have hFst : Fst x.p.cp (akW x) 0 F := hFst
      have HAn := Lib.hid (adAns_any hO.p2)
      clear HCy HCn HFr HF0 HTic
      by_cases hneg : F < 0
      · obtain rfl : F = -1 := by omega
        obtain ⟨e1, e2, e3, e4⟩ := alone_none' HAl.out hFst
        obtain ⟨z1, z2, z3⟩ := ad_shut HE.out.shut
        rw [z1, z2, z3, e1, e2, e3] at HAn
        unfold ansV at HAn
        have e5 : ws' = ws := by rw [e4, Hws.out]
        have q0 := ans12Q 3 0 0
        have HSm := fun w' (h : Own W NoF (row (.slice (some ⟨rz, oz, none⟩) ws.length cz) 3 1 ws.length (intC ws') :: memA 110 m ws' lg' :: adA (.slice pp x.c.ps.length cp) (.slice pl x.c.ls.length cl) g p s' :: row (.slice (some ⟨rw_, ow, none⟩) ws.length cw) 3 1 ws.length (intC ws) :: [blk W.heap.size (akO x (.slice pp x.c.ps.length cp) (.slice pl x.c.ls.length cl) vb va vk)]) w') => Lib.hid (SameInts_yes (w := w') (by have := h.intsN (zs := ws') HLz.out; rw [e5] at this; exact this) h.p3.intsAt (by omega))
        have HO := Lib.hid hO
        clear e1 e2 e3 e4 e5 z1 z2 z3 hO hFst
        go_wp2_with fail
        refine HAn.out.mono ?_
        rintro e w10 ⟨rfl, hB⟩
        have hO := HO.out.below hB
        have HS := HSm _ hO
        have HO := Lib.hid hO
        clear hB HSm hO HAn
        go_wp2_with fail
        refine HS.out.mono ?_
        rintro e w11 ⟨rfl, hD⟩
        have HB := Lib.hid (HO.out.below hD.below).toBelow
        clear HS hD HO d0 d1 d2 d3 d4 d5 d6 d7 d8 d9 d10 d11 d12 d13
        go_wp2_with fail
        go_ret
        exact ⟨rfl, HB.out⟩
      · obtain ⟨K, rfl⟩ : ∃ K : Nat, F = K := ⟨F.toNat, by omega⟩
        clear HAn
        have hpx := Ak.p_ok Hr.out
        obtain ⟨hlp0, hlp⟩ := DP.len_bd hpx
        have HNd := Lib.hid (fun i (hi : i < x.p.len) => show (path x.c.ps x.v).getD i 0 = (x.p.nd i : Int) ∧ x.p.nd i < x.c.ps.length from ⟨by
          have h : (path x.c.ps x.v).getD i (-1) = (x.p.nd i : Int) := DP.nd_int hpx i hi
          have hi' : i < (path x.c.ps x.v).length := hi
          simp only [List.getD_eq_getElem?_getD, List.getElem?_eq_getElem hi', Option.getD_some] at h ⊢; exact h, DP.nd_lt hpx i hi⟩)
        have hPL : x.p.len = (path x.c.ps x.v).length := rfl
        have HPt := Lib.hid (rPath_any x.c Hr.out.tr (Hp.out.stp hO.toBelow) (Hl.out.stp hO.toBelow) (x.v : Int) hO)
        have HGo := Lib.hid (fun h2 => alone_good' Hr.out HAl.out hFst h2)
        have HOv := Lib.hid (fun i hi h1 h2 => alone_over' Hr.out HAl.out hFst i hi h1 h2)
        have HAv := fun (u : Nat) (hu : u < x.c.ps.length) w' => (show Calls Tryz.prog 30 #[cfV x.c (.slice pp x.c.ps.length cp) (.slice pl x.c.ls.length cl), .int .i64 u] w' fun e w'' => e = .returned (.int .i64 (avN x.c u)) ∧ Below w'.heap.size w' w'' from by
          have h := rAvail_q (pp := pp) (np := x.c.ps.length) (cp := cp) (pl := pl) (nl := x.c.ls.length) (cl := cl) x.c Hr.out.sm (u : Int) (by omega) (by omega) w'
          rw [limN_eq Hr.out.sm] at h
          exact h)
        have HAin := Lib.hid (fun (u : Nat) (hu : u < x.c.ps.length) => show avN x.c u < ws.length from by rw [HLn.out]; have := limN_lt x.c hu; unfold avN sizeN; omega)
        rw [← Hws.out] at HOv HGo
        generalize hPT : path x.c.ps x.v = PT at *
        generalize hPN : x.p.len = PL at *
        have HPL := Lib.hid hPL
        have HPN := Lib.hid hPN
        clear hO hFst hpx HAl hPT hPN hPL
        go_wp2_with fail
        refine HPt.out.mono ?_
        rintro e w10 ⟨vq, rfl, hO⟩
        clear HPt d0 d1 d2 d3 d4 d5 d6 d7 d8 d9 d10 d11 d12 d13
        rw [← HPL.out] at hO
        obtain ⟨rq, oq, cq, hvq, -⟩ := (hO.intsN (zs := PT) HPL.out.symm).at (by have := HPL.out; omega)
        rw [← HPL.out] at hvq
        subst hvq
        have HO3 := Lib.hid hO
        clear hO
        go_wp2_with fail
        have HA := fun w' (h : Own W NoF (row (.slice (some ⟨rq, oq, none⟩) PL cq) 3 1 PL (intC PT) :: row (.slice (some ⟨rz, oz, none⟩) ws.length cz) 3 1 ws.length (intC ws') :: memA 110 m ws' lg' :: adA (.slice pp x.c.ps.length cp) (.slice pl x.c.ls.length cl) g p s' :: row (.slice (some ⟨rw_, ow, none⟩) ws.length cw) 3 1 ws.length (intC ws) :: [blk W.heap.size (akO x (.slice pp x.c.ps.length cp) (.slice pl x.c.ls.length cl) vb va vk)]) w') => Lib.hid (adAns_any h.p3)
        go_loopw [17] (fun v17 wr => ∃ i : Nat, i ≤ PL ∧ v17 = .int .i64 i ∧ (∀ j, j < i → ¬ ws.getD (avN x.c (x.p.nd j)) 0 < x.k) ∧ Own W NoF (row (.slice (some ⟨rq, oq, none⟩) PL cq) 3 1 PL (intC PT) :: row (.slice (some ⟨rz, oz, none⟩) ws.length cz) 3 1 ws.length (intC ws') :: memA 110 m ws' lg' :: adA (.slice pp x.c.ps.length cp) (.slice pl x.c.ls.length cl) g p s' :: row (.slice (some ⟨rw_, ow, none⟩) ws.length cw) 3 1 ws.length (intC ws) :: [blk W.heap.size (akO x (.slice pp x.c.ps.length cp) (.slice pl x.c.ls.length cl) vb va vk)]) wr) (fun v17 _ => PL - (intOf v17).toNat)
        case atStart => exact ⟨0, Nat.zero_le _, rfl, fun j h => by omega, HO3.out⟩
        case round =>
          obtain ⟨i, hi, rfl, hNo, hO⟩ := hrel
          clear HO3
          obtain ⟨d0, d1, d2, d3, d4, d5, d6, d7, d8, d9, d10, d11, d12, d13⟩ := akCells hO.p5
          by_cases hlt : i < PL
          · obtain ⟨q1, q2⟩ := HNd.out i hlt
            have HV := Lib.hid (HOv.out i hlt)
            have hIn := HAin.out _ q2
            have y0 := row_cell hO HPL.out.symm i hlt
            rw [q1] at y0
            have x1 := row_cell hO.p4 rfl (avN x.c (x.p.nd i)) hIn
            have hTk := HAv _ q2
            generalize hU : x.p.nd i = U at *
            have g1 : ((avN x.c U : Nat) : Int) < (ws.length : Int) := by omega
            have g3 : (i : Int) < (PL : Int) := by omega
            have HNo := Lib.hid hNo
            have HEQ := Lib.hid hU
            clear hNo hIn HGo hU
            generalize hAV : avN x.c U = AV at *
            have HEV := Lib.hid hAV
            clear hAV
            generalize hy0 : ws.getD AV 0 = y at *
            have HY := Lib.hid hy0
            have C1 := fun d os => Calls.regrown_of (hTk (Go.Sort.grow (redrawn wr d) os))
            have HRG := Lib.hid (fun (d : Nat) (os : Array Obj) => hO.below (below_regrown wr d os))
            clear hy0 hTk hO
            go_wp2_with fail
            have k0 := cell_regrown d0
            have k1 := cell_regrown d1
            have k2 := cell_regrown d2
            have k3 := cell_regrown d3
            have k4 := cell_regrown d4
            have k5 := cell_regrown d5
            have k6 := cell_regrown d6
            have k7 := cell_regrown d7
            have k8 := cell_regrown x1
            have k9 := cell_regrown y0
            clear x1 y0 d0 d1 d2 d3 d4 d5 d6 d7 d8 d9 d10 d11 d12 d13
            try dsimp only [List.append]
            refine wp_region_quiet_below (by kernel_rfl) (by kernel_rfl) ?_
            repeat (go_big_quiet_step ((go_at_call 30; with_reducible exact C1 _ _)))
            refine wpQuiet_nil ?_
            intro _ hw'
            obtain ⟨⟨dq, osq⟩, hw''⟩ := hw'
            subst hw''
            have hO := HRG.out dq osq
            clear HRG C1 k0 k1 k2 k3 k4 k5 k6 k7 k8 k9
            by_cases hy : y < x.k
            · obtain ⟨p0, p1, p2, p3, p4⟩ := HV.out hy (fun j hj => HNo.out j hj)
              have p5 := p4 (tkN x.c K) (fun u hu => Or.inr (by have h1 := limN_lt x.c hu; unfold ctN tkN; omega))
              rw [if_pos rfl] at p5
              obtain ⟨z1, z2, z3⟩ := ad_shut HE.out.shut
              have hI := HE.out.w.wf (tkN x.c K)
              have hst : stS (ws'.getD (tkN x.c K) 0) = 0 := by rw [p5]; exact tn_st _ _ (by decide) (by decide)
              have hKt : K < x.c.ti.toNat := by have := HTI.out; omega
              have hIn := HTin.out K hKt
              rw [z1, z2, z3, p1, p2, p3] at HA
              unfold ansV at HA
              have q0 := ans12Q 4 0 (U : Int)
              have x1 := row_cell hO.swap HLz.out (tkN x.c K) (by omega)
              have y0 := row_cell hO HPL.out.symm i hlt
              rw [q1] at y0
              have HT1 := HTk K hKt
              have HS1 := sState_any (ws'.getD (tkN x.c K) 0) (by unfold I64 at hI; unfold W64; omega)
              rw [hst] at HS1
              generalize ws'.getD (tkN x.c K) 0 = zt at *
              have g5 : ((tkN x.c K : Nat) : Int) < (ws.length : Int) := by omega
              generalize tkN x.c K = TK at *
              obtain ⟨d0, d1, d2, d3, d4, d5, d6, d7, d8, d9, d10, d11, d12, d13⟩ := akCells hO.p5
              generalize Go.Sort.grow (redrawn wr dq) osq = w11 at *
              have HRG := Lib.hid (fun (d : Nat) (os : Array Obj) => hO.below (below_regrown w11 d os))
              have C1 := fun d os => Calls.regrown_of (HT1 (Go.Sort.grow (redrawn w11 d) os))
              have C2 := fun d os => Calls.regrown_of (HS1 (Go.Sort.grow (redrawn w11 d) os))
              have C3 := fun d os => Calls.regrown_of (HA _ (HRG.out d os)).out
              clear HT1 HS1 HA HOv HV p0 p1 p2 p3 p4 p5 z1 z2 z3 hI hst hIn q1 hO
              go_wp2_with fail
              have k0 := cell_regrown d0
              have k1 := cell_regrown d1
              have k2 := cell_regrown d2
              have k3 := cell_regrown d3
              have k4 := cell_regrown d4
              have k5 := cell_regrown d5
              have k6 := cell_regrown d6
              have k7 := cell_regrown d7
              have k8 := cell_regrown x1
              have k9 := cell_regrown y0
              clear x1 y0 d0 d1 d2 d3 d4 d5 d6 d7 d8 d9 d10 d11 d12 d13
              try dsimp only [List.append]
              refine wp_region_quiet_below (by kernel_rfl) (by kernel_rfl) ?_
              repeat (go_big_quiet_step (first | (go_at_call 28; with_reducible exact C1 _ _) | (go_at_call 31; with_reducible exact C2 _ _) | (go_at_call 19; with_reducible exact C3 _ _)))
              refine wpQuiet_nil ?_
              intro _ hw'
              obtain ⟨⟨dq, osq⟩, hw''⟩ := hw'
              subst hw''
              have HB := Lib.hid (HRG.out dq osq).toBelow
              clear HRG C1 C2 C3 k0 k1 k2 k3 k4 k5 k6 k7 k8 k9
              go_wp2_with fail
              go_ret
              exact ⟨rfl, HB.out⟩
            · have HO2 := Lib.hid hO
              clear HA HOv HV hO q1
              go_wp2_with fail
              go_roundw
              case rel => exact ⟨i + 1, by omega, by go_num, fun j hj => by
                rcases (show j < i ∨ j = i by omega) with q | q
                · have := HNo.out j q; omega
                · rw [q, HEQ.out, HEV.out, HY.out]; exact hy, HO2.out⟩
              case measure => simp [intOf]; omega
          · obtain rfl : PL = i := by omega
            obtain ⟨-, p1, p2, p3, p4, p5, p6⟩ := HGo.out (fun j hj => by have := hNo j hj; omega)
            have HSum := Lib.hid p6
            obtain ⟨z1, z2, z3⟩ := ad_shut HE.out.shut
            rw [z1, z2, z3, p1, p2, p3] at HA
            unfold ansV at HA
            have st := st_nat Hr.out
            have HWf := Lib.hid HE.out.w.wf
            have HU := fun (b : Int) w' (hs : Stp W w') => Lib.hid (rUnder_any (w := w') x.c Hr.out.tr (Hp.out.stp hs) (Hl.out.stp hs) (x.v : Int) b)
            have HCt := fun (u : Nat) (hu : u < x.c.ps.length) w' => (show Calls Tryz.prog 33 #[cfV x.c (.slice pp x.c.ps.length cp) (.slice pl x.c.ls.length cl), .int .i64 u] w' fun e w'' => e = .returned (.int .i64 (ctN x.c u)) ∧ Below w'.heap.size w' w'' from by
              have h := Counter_q (pp := pp) (np := x.c.ps.length) (cp := cp) (pl := pl) (nl := x.c.ls.length) (cl := cl) x.c Hr.out.sm (u : Int) (by omega) (by omega) w'
              rw [limN_eq Hr.out.sm, st.1] at h; unfold ctN; push_cast; push_cast at h; exact h)
            have HCin := Lib.hid (fun (u : Nat) (hu : u < x.c.ps.length) => show ctN x.c u + 4 + x.c.st.toNat ≤ ws.length ∧ ctN x.c u ≤ 1000 from by have h1 := HLn.out; have h2 := limN_lt x.c hu; unfold sizeN at h1; unfold ctN; omega)
            have HSm := fun (u : Nat) (hu : u < x.c.ps.length) w' (h : Own W NoF (row (.slice (some ⟨rq, oq, none⟩) PL cq) 3 1 PL (intC PT) :: row (.slice (some ⟨rz, oz, none⟩) ws.length cz) 3 1 ws.length (intC ws') :: memA 110 m ws' lg' :: adA (.slice pp x.c.ps.length cp) (.slice pl x.c.ls.length cl) g p s' :: row (.slice (some ⟨rw_, ow, none⟩) ws.length cw) 3 1 ws.length (intC ws) :: [blk W.heap.size (akO x (.slice pp x.c.ps.length cp) (.slice pl x.c.ls.length cl) vb va vk)]) w') => Lib.hid (show Calls Tryz.prog 32 #[.pointer (some ⟨m, 0, none⟩), .int .i64 (ctN x.c u), .int .i64 x.c.st] w' fun e w'' => e = .returned (.int .i64 (if onB x.c.ps x.v u = true then x.k else 0)) ∧ Below w'.heap.size w' w'' from by
              have h := addSum_b (ctP x.c u 0) x.c.st.toNat st.1 st.2.1 st.2.2 (HCin.out u hu).2 (by have := (HCin.out u hu).1; have := HLz.out; show ctN x.c u + 4 + _ ≤ _; omega) (by have := HLz.out; omega) HWf.out h.p2
              rw [← st.1, HSum.out u hu] at h; exact h)
            have hKt : K < x.c.ti.toNat := by have := HTI.out; omega
            have HP4 := Lib.hid p4
            have HP5 := Lib.hid p5
            have HP2 := Lib.hid p2
            have HO3 := Lib.hid hO
            clear hO hNo HOv HGo HAv HAin HNd p1 p3 p4 p5 p6 z1 z2 z3 HSum HE p2 st
            go_wp2_with fail
            clear d0 d1 d2 d3 d4 d5 d6 d7 d8 d9 d10 d11 d12 d13
            go_loopw [18, 19] (fun v18 v19 wr => ∃ u : Nat, u ≤ x.c.ps.length ∧ v18 = .int .i64 u ∧ Own W NoF (row (.slice (some ⟨rq, oq, none⟩) PL cq) 3 1 PL (intC PT) :: row (.slice (some ⟨rz, oz, none⟩) ws.length cz) 3 1 ws.length (intC ws') :: memA 110 m ws' lg' :: adA (.slice pp x.c.ps.length cp) (.slice pl x.c.ls.length cl) g p s' :: row (.slice (some ⟨rw_, ow, none⟩) ws.length cw) 3 1 ws.length (intC ws) :: [blk W.heap.size (akO x (.slice pp x.c.ps.length cp) (.slice pl x.c.ls.length cl) vb va vk)]) wr) (fun v18 v19 _ => x.c.ps.length - (intOf v18).toNat)
            case atStart => exact ⟨0, Nat.zero_le _, rfl, HO3.out⟩
            case round =>
              obtain ⟨u, hu, rfl, hO⟩ := hrel
              clear HO3
              obtain ⟨d0, d1, d2, d3, d4, d5, d6, d7, d8, d9, d10, d11, d12, d13⟩ := akCells hO.p5
              by_cases hlu : u < x.c.ps.length
              · have g1 : (u : Int) < (x.c.ps.length : Int) := by omega
                have HU1 := HU u _ hO.toBelow
                have HS1 := HSm u hlu
                have HC1 := HCt u hlu
                generalize onB x.c.ps (x.v : Int) (u : Int) = bb at *
                generalize ctN x.c u = CT at *
                have HO := Lib.hid hO
                clear hO HU HSm HCt HA
                go_wp2_with fail
                refine HU1.out.mono ?_
                rintro e w12 ⟨rfl, hB⟩
                have hO := HO.out.below hB
                clear HU1 HO hB d0 d1 d2 d3 d4 d5 d6 d7 d8 d9 d10 d11 d12 d13
                obtain ⟨d0, d1, d2, d3, d4, d5, d6, d7, d8, d9, d10, d11, d12, d13⟩ := akCells hO.p5
                have HRG := Lib.hid (fun d os => hO.below (below_regrown w12 d os))
                have C1 := fun d os => Calls.regrown_of (HC1 (Go.Sort.grow (redrawn w12 d) os))
                have C2 := fun d os => Calls.regrown_of (HS1 _ (HRG.out d os)).out
                clear hO HC1 HS1
                cases bb with
                | true =>
                  rw [if_pos rfl] at C2
                  have g2 : (x.k != x.k) = false := by simp
                  go_wp2_with fail
                  have k0 := cell_regrown d0
                  have k1 := cell_regrown d1
                  have k2 := cell_regrown d2
                  have k3 := cell_regrown d3
                  have k4 := cell_regrown d4
                  have k5 := cell_regrown d5
                  have k6 := cell_regrown d6
                  have k7 := cell_regrown d7
                  clear d0 d1 d2 d3 d4 d5 d6 d7 d8 d9 d10 d11 d12 d13
                  try dsimp only [List.append]
                  refine wp_region_quiet_below (by kernel_rfl) (by kernel_rfl) ?_
                  repeat (go_big_quiet_step (first | (go_at_call 33; with_reducible exact C1 _ _) | (go_at_call 32; with_reducible exact C2 _ _)))
                  refine wpQuiet_nil ?_
                  intro _ hw'
                  obtain ⟨⟨dq, osq⟩, hw''⟩ := hw'
                  subst hw''
                  have HO2 := Lib.hid (HRG.out dq osq)
                  clear HRG C1 C2 k0 k1 k2 k3 k4 k5 k6 k7
                  go_wp2_with fail
                  go_roundw
                  case rel => exact ⟨u + 1, by omega, by go_num, HO2.out⟩
                  case measure => simp [intOf]; omega
                | false =>
                  rw [if_neg (by decide)] at C2
                  have g2 : ((0 : Int) != 0) = false := by decide
                  go_wp2_with fail
                  have k0 := cell_regrown d0
                  have k1 := cell_regrown d1
                  have k2 := cell_regrown d2
                  have k3 := cell_regrown d3
                  have k4 := cell_regrown d4
                  have k5 := cell_regrown d5
                  have k6 := cell_regrown d6
                  have k7 := cell_regrown d7
                  clear d0 d1 d2 d3 d4 d5 d6 d7 d8 d9 d10 d11 d12 d13
                  try dsimp only [List.append]
                  refine wp_region_quiet_below (by kernel_rfl) (by kernel_rfl) ?_
                  repeat (go_big_quiet_step (first | (go_at_call 33; with_reducible exact C1 _ _) | (go_at_call 32; with_reducible exact C2 _ _)))
                  refine wpQuiet_nil ?_
                  intro _ hw'
                  obtain ⟨⟨dq, osq⟩, hw''⟩ := hw'
                  subst hw''
                  have HO2 := Lib.hid (HRG.out dq osq)
                  clear HRG C1 C2 k0 k1 k2 k3 k4 k5 k6 k7
                  go_wp2_with fail
                  go_roundw
                  case rel => exact ⟨u + 1, by omega, by go_num, HO2.out⟩
                  case measure => simp [intOf]; omega
              · obtain rfl : x.c.ps.length = u := by omega
                have hIn := HTin.out K hKt
                have hz := HWf.out (tkN x.c K)
                have x1 := fun w' (h : Own W NoF (row (.slice (some ⟨rq, oq, none⟩) PL cq) 3 1 PL (intC PT) :: row (.slice (some ⟨rz, oz, none⟩) ws.length cz) 3 1 ws.length (intC ws') :: memA 110 m ws' lg' :: adA (.slice pp x.c.ps.length cp) (.slice pl x.c.ls.length cl) g p s' :: row (.slice (some ⟨rw_, ow, none⟩) ws.length cw) 3 1 ws.length (intC ws) :: [blk W.heap.size (akO x (.slice pp x.c.ps.length cp) (.slice pl x.c.ls.length cl) vb va vk)]) w') => row_cell h.swap HLz.out (tkN x.c K) (by omega)
                have x2 := fun w' (h : Own W NoF (row (.slice (some ⟨rq, oq, none⟩) PL cq) 3 1 PL (intC PT) :: row (.slice (some ⟨rz, oz, none⟩) ws.length cz) 3 1 ws.length (intC ws') :: memA 110 m ws' lg' :: adA (.slice pp x.c.ps.length cp) (.slice pl x.c.ls.length cl) g p s' :: row (.slice (some ⟨rw_, ow, none⟩) ws.length cw) 3 1 ws.length (intC ws) :: [blk W.heap.size (akO x (.slice pp x.c.ps.length cp) (.slice pl x.c.ls.length cl) vb va vk)]) w') => row_cell h.swap HLz.out (tkN x.c K + 1) hIn
                rw [HP5.out] at x2
                have HSt := sState_any (ws'.getD (tkN x.c K) 0) (by unfold I64 at hz; unfold W64; omega)
                rw [HP4.out] at HSt
                have HVe := fun w' => (show Calls Tryz.prog 36 #[.int .i64 (ws'.getD (tkN x.c K) 0)] w' fun e w'' => e = .returned (.int .i64 (pver (ws'.getD (tkN x.c K) 0))) ∧ Below w'.heap.size w' w'' from (rVersion_any (ws'.getD (tkN x.c K) 0) (by unfold I64 at hz; omega) (by unfold I64 at hz; omega) w').mono fun e w'' h => ⟨h.1, h.2 ▸ Below.refl _ _⟩)
                obtain ⟨n1, n2, n3, n4⟩ := nm_of K (ws'.getD (tkN x.c K) 0) x.c.ti (by have := HTI.out; omega) hti16.2
                have HNm := sNamed_any (hdV K (ws'.getD (tkN x.c K) 0)) x.c.ti n4 hti16.1 hti16.2
                rw [n1, n2, n3] at HNm
                have hbd : bdB x.v x.k = true := decide_eq_true ⟨by omega, by have := (Ak.v_bd Hr.out).1; omega, Ak.k_bd⟩
                obtain ⟨o1, o2, o3⟩ := bd_of x.v x.k hbd
                have HOg := sOf_any (bdV x.v x.k) (by have := bdV_bd x.v x.k; unfold W64; omega)
                rw [o1, o2, o3] at HOg
                have HT1 := HTk K hKt
                have hl4 := hlen.2
                generalize hdV K (ws'.getD (tkN x.c K) 0) = HD at *
                generalize ws'.getD (tkN x.c K) 0 = zt at *
                generalize pver zt = VE at *
                generalize bdV x.v x.k = BD at *
                obtain ⟨T1, hT1⟩ : ∃ T1, T1 = tkN x.c K + 1 := ⟨_, rfl⟩
                rw [← hT1] at x2 hIn
                have g5 : ((tkN x.c K : Nat) : Int) < (ws.length : Int) := by omega
                have g6 : (T1 : Int) < (ws.length : Int) := by omega
                have hw : IntKind.i64.wrap (((tkN x.c K : Nat) : Int) + 1) = (T1 : Int) := by rw [IntWalk.i64_in _ (by omega)]; omega
                generalize tkN x.c K = TK at *
                have g7 : ((K : Int) == (K : Int)) = true := by simp
                have g8 : (VE == VE) = true := by simp
                have g9 : ((x.v : Int) == (x.v : Int)) = true := by simp
                have g10 : (x.k == x.k) = true := by simp
                have qe := ans12E 0 HD false 0
                have qn := ans12N 0 HD false 0
                have HO := Lib.hid hO.drew
                clear hO hz n1 n2 n3 n4 o1 o2 o3 hbd hT1 hIn HU HSm HCt HTk HTin HP2 HP4 HP5 d0 d1 d2 d3 d4 d7 d8 d9 d10 d11 d12 d13
                go_wp2_with fail
                clear d6
                try dsimp only [List.append]
                go_region_held3 (fun w' => w'.cell? ⟨W.heap.size, 5, none⟩ = some (.int .i64 x.c.ti)) (go_keep)
                  (first
                    | (go_at_call 19; refine (HA _ HO.out).out.mono ?_; rintro e w20 ⟨rfl, hB⟩; have HO := Lib.hid (HO.out.below hB); have d5 := Stp.cell hB d5; clear hB)
                    | (go_at_call 34; refine (HNm _).mono ?_; rintro e w21 ⟨rfl, hB⟩; have HO := Lib.hid (HO.out.below hB); have d5 := Stp.cell hB d5; clear hB))
                all_goals
                  clear d5 HNm
                  obtain ⟨d0, d1, d2, d3, d4, d5, d6, d7, d8, d9, d10, d11, d12, d13⟩ := akCells HO.out.p5
                  go_wp2_with fail
                  refine (HT1 _).mono ?_
                  rintro e w14 ⟨rfl, hB⟩
                  have HO := Lib.hid (HO.out.below hB)
                  have x3 := x2 _ HO.out
                  clear hB x2 d0 d1 d2 d3 d4 d5 d6 d7 d8 d9 d10 d11 d12 d13
                  go_wp2_with fail
                  refine (HOg _).mono ?_
                  rintro e w15 ⟨rfl, hB⟩
                  have HO := Lib.hid (HO.out.below hB)
                  clear hB HOg hw x3
                  obtain ⟨d0, d1, d2, d3, d4, d5, d6, d7, d8, d9, d10, d11, d12, d13⟩ := akCells HO.out.p5
                  have x3 := x1 _ HO.out
                  go_wp2_with fail
                  refine (HA _ HO.out).out.mono ?_
                  rintro e w20 ⟨rfl, hB⟩
                  have HO := Lib.hid (HO.out.below hB)
                  clear hB x3 d0 d1 d2 d3 d4 d5 d6 d7 d8 d9 d10 d11 d12 d13
                  obtain ⟨d0, d1, d2, d3, d4, d5, d6, d7, d8, d9, d10, d11, d12, d13⟩ := akCells HO.out.p5
                  have x3 := x1 _ HO.out
                  go_wp2_with fail
                  refine (HT1 _).mono ?_
                  rintro e w21 ⟨rfl, hB⟩
                  have HO := Lib.hid (HO.out.below hB)
                  clear hB x3 d0 d1 d2 d3 d4 d5 d6 d7 d8 d9 d10 d11 d12 d13
                  obtain ⟨d0, d1, d2, d3, d4, d5, d6, d7, d8, d9, d10, d11, d12, d13⟩ := akCells HO.out.p5
                  have x3 := x1 _ HO.out
                  go_wp2_with fail
                  refine (HVe _).mono ?_
                  rintro e w22 ⟨rfl, hB⟩
                  have HO := Lib.hid (HO.out.below hB)
                  clear hB x3 d0 d1 d2 d3 d4 d5 d6 d7 d8 d9 d10 d11 d12 d13
                  obtain ⟨d0, d1, d2, d3, d4, d5, d6, d7, d8, d9, d10, d11, d12, d13⟩ := akCells HO.out.p5
                  have x3 := x1 _ HO.out
                  go_wp2_with fail
                  refine (HT1 _).mono ?_
                  rintro e w23 ⟨rfl, hB⟩
                  have HO := Lib.hid (HO.out.below hB)
                  clear hB x3 d0 d1 d2 d3 d4 d5 d6 d7 d8 d9 d10 d11 d12 d13
                  obtain ⟨d0, d1, d2, d3, d4, d5, d6, d7, d8, d9, d10, d11, d12, d13⟩ := akCells HO.out.p5
                  have x3 := x1 _ HO.out
                  go_wp2_with fail
                  refine (HSt _).mono ?_
                  rintro e w24 ⟨rfl, hB⟩
                  have HO := Lib.hid (HO.out.below hB)
                  clear hB x3 d0 d1 d2 d3 d4 d5 d6 d7 d8 d9 d10 d11 d12 d13
                  obtain ⟨d0, d1, d2, d3, d4, d5, d6, d7, d8, d9, d10, d11, d12, d13⟩ := akCells HO.out.p5
                  have x3 := x1 _ HO.out
                  go_wp2_with fail
                  clear x3 d0 d1 d2 d3 d4 d5 d6 d7 d8 d9 d10 d11 d12 d13
                  go_ret
                  exact ⟨rfl, HO.out.toBelow⟩
theorem AdmitAlone_calls (W : World) (x : Ak) (vp vl vb va vk : Value) (hwd : Wide x.c) (hwf : x.Wf) (hp : IntsAt W .i64 vp x.c.ps) (hl : IntsAt W .i64 vl x.c.ls) (hb : BlsAt W vb x.bs) (ha : IntsAt W .u32 va x.av) (hk : PksAt W vk x.l) :
    Calls Tryz.prog 5 #[akV x vp vl vb va vk] W fun e w' => e = .returned (.bool true) ∧ Below W.heap.size W w' := by
  by_cases hg : GoodA x
  · exact AdmitAlone_main W x ⟨hwd, hwf, hp, hl, hb, ha, hk⟩ hg
  · exact AdmitAlone_bad W x ⟨hwd, hwf, hp, hl, hb, ha, hk⟩ hg
end Go.Proofs.YtjohngpbggendaaGreat
