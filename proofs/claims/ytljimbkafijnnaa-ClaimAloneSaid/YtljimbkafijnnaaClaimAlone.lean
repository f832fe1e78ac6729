/- ClaimAlone. Written by tools/gen_claim*.py. -/
import Derived.Test.YtljimbkafijnnaaClaimRows
import Derived.Lib.QuietBelow
import Derived.Deep.RegionWith
namespace Go.Proofs.Ytljimbkafijnnaa
open Go.ChangeShapes Go.WideShapes Go.ChangeAt Go.RowKit Go.Shelf
set_option linter.unusedVariables false
set_option linter.unusedSimpArgs false
set_option maxRecDepth 100000
theorem ClaimAlone_bad (W : World) (c : Cf) {vp vl v : Value} {zs : List Int} (hwd : Wide c) (hp : IntsAt W .i64 vp c.ps) (hl : IntsAt W .i64 vl c.ls) (hv : IntsAt W .i64 v zs) (hz : ∀ n ∈ zs, I64 n) (hm : zs.length ≤ maxLen) (hg : ¬ GoodC c zs.length 0) (st : Int) (st0 : 0 ≤ st) (st1 : st ≤ 65535) :
    Calls Try.prog 4 #[cfV c vp vl, v, .int .u16 st] W fun e w' => e = .returned (.bool true) ∧ Below W.heap.size W w' := by
  obtain ⟨pp, cp, rfl⟩ := hp.slice
  obtain ⟨pl, cl, rfl⟩ := hl.slice
  obtain ⟨pv, cv, rfl⟩ := hv.slice
  have h0 := (Own.start W).new (cfO c (.slice pp c.ps.length cp) (.slice pl c.ls.length cl))
  have Hh := Lib.hid (head11_any h0)
  unfold maxLen at *
  have HG := fun w' (hb : Stp W w') => Lib.hid (cGood_no (w := w') (pe := pv) (pk := none) (ce := cv) (ck := 0) hwd (hp.stp hb) (hl.stp hb) (by omega) (by omega) hg)
  clear h0 hp hl hv hg hwd hz
  go_enter Try.func4, Try.ntmps4
  go_wp2_with fail
  refine Hh.out.mono ?_
  rintro e w1 ⟨rfl, hO⟩
  obtain ⟨d0, d1, d2, d3, d4, d5, d6, d7⟩ := conf_cells hO
  go_wp2_with fail
  refine (HG _ hO.toBelow).out.mono ?_
  rintro e w2 ⟨rfl, hB⟩
  have hO := hO.below hB
  clear hB HG Hh d0 d1 d2 d3 d4 d5 d6 d7
  have HB := Lib.hid hO.toBelow
  clear hO
  go_wp2_with fail
  go_ret
  exact ⟨rfl, HB.out⟩
set_option maxHeartbeats 20000000 in
theorem ClaimAlone_main (W : World) (c : Cf) {vp vl v : Value} {zs : List Int} (hwd : Wide c) (hp : IntsAt W .i64 vp c.ps) (hl : IntsAt W .i64 vl c.ls) (hv : IntsAt W .i64 v zs) (hz : ∀ n ∈ zs, I64 n) (hm : zs.length ≤ maxLen) (hg : GoodC c zs.length 0) (st : Int) (st0 : 0 ≤ st) (st1 : st ≤ 65535) :
    Calls Try.prog 4 #[cfV c vp vl, v, .int .u16 st] W fun e w' => e = .returned (.bool true) ∧ Below W.heap.size W w' := by
  obtain ⟨pp, cp, rfl⟩ := hp.slice
  obtain ⟨pl, cl, rfl⟩ := hl.slice
  obtain ⟨pv, cv, rfl⟩ := hv.slice
  have h0 := (Own.start W).new (cfO c (.slice pp c.ps.length cp) (.slice pl c.ls.length cl))
  have Hh := Lib.hid (head11_any h0)
  have hr := hg.rt
  have h40 := hg.l
  have HG := fun w' (hb : Stp W w') => Lib.hid (cGood_yes (w := w') (pe := pv) (pk := none) (ce := cv) (ck := 0) hwd (hp.stp hb) (hl.stp hb) hg)
  have HWd := fun w L (h : Own W NoF L w) => Lib.hid (cWords_any hr hp hl hv h40 h)
  have HNw := fun st (h0 : st ≤ 1000) w L (h : Own W NoF L w) => Lib.hid (clNew_any (w0 := W) (F0 := NoF) (L := L) (w := w) (pp := pp) (cp := cp) (pl := pl) (cl := cl) c hr st h0 h)
  have HCw := Lib.hid (fun st => clW_cw hr zs hz st (clR c zs))
  have hn1 := hr.n1
  obtain ⟨t1, t2, t3, t4, t5, t6⟩ := tk_eq hr
  have HTi := fun k k0 k1 w => Lib.hid (Ticket_q (pp := pp) (np := c.ps.length) (cp := cp) (pl := pl) (nl := c.ls.length) (cl := cl) c hr.sm hn1 k k0 k1 w)
  have HrTi := fun k k0 k1 w => Lib.hid (rTicket_q (pp := pp) (np := c.ps.length) (cp := cp) (pl := pl) (nl := c.ls.length) (cl := cl) c hr.sm hn1 k k0 k1 w)
  rw [t1] at HTi HrTi
  have Hr := Lib.hid hr
  have HT4 := Lib.hid t4
  have HT2 := Lib.hid t2
  clear t1 t2 t4
  obtain ⟨ST, hST⟩ : ∃ ST : Nat, st % 1001 = (ST : Int) := ⟨(st % 1001).toNat, by omega⟩
  have hST1 : ST ≤ 1000 := by omega
  have est : st.tmod 1001 = (ST : Int) := by rw [← hST]; exact Int.tmod_eq_emod_of_nonneg st0
  clear hST
  clear h0 hp hl hv hg hwd hr
  go_enter Try.func4, Try.ntmps4
  go_wp2_with fail
  refine Hh.out.mono ?_
  rintro e w1 ⟨rfl, hO⟩
  obtain ⟨d0, d1, d2, d3, d4, d5, d6, d7⟩ := conf_cells hO
  go_wp2_with fail
  refine (HG _ hO.toBelow).out.mono ?_
  rintro e w2 ⟨rfl, hB⟩
  have hO := hO.below hB
  clear hB HG Hh d0 d1 d2 d3 d4 d5 d6 d7
  obtain ⟨d0, d1, d2, d3, d4, d5, d6, d7⟩ := conf_cells hO
  go_wp2_with fail
  refine (HWd _ _ hO).out.mono ?_
  rintro e w4 ⟨vw, rfl, hO⟩
  clear HWd d0 d1 d2 d3 d4 d5 d6 d7
  have hlen0 := clW_len c zs (clR c zs)
  obtain ⟨ws, hws⟩ : ∃ ws, ws = clW c zs (clR c zs) := ⟨_, rfl⟩
  rw [← hws] at hO HCw hlen0
  rw [← hlen0] at hO
  have HLn := Lib.hid hlen0
  have hlen : 2 ≤ ws.length ∧ ws.length ≤ 400 := by have := HT2.out; omega
  clear hlen0 hws
  have HLd := Lib.hid (pLaid_any (by omega) (by omega) hO)
  clear hO
  go_wp2_with fail
  refine HLd.out.mono ?_
  rintro e w5 ⟨m, rfl, hO⟩
  clear HLd
  have hO : Own W NoF (memA 92 m ws [] :: row vw 3 1 ws.length (intC ws) :: [blk W.heap.size (cfO c (.slice pp c.ps.length cp) (.slice pl c.ls.length cl))]) w5 := hO
  obtain ⟨pw, cw, rfl⟩ := row_slice (show Own W NoF (row vw 3 1 ws.length (intC ws) :: memA 92 m ws [] :: [blk W.heap.size (cfO c (.slice pp c.ps.length cp) (.slice pl c.ls.length cl))]) w5 from hO.swap)
  obtain ⟨d0, d1, d2, d3, d4, d5, d6, d7⟩ := conf_cells hO.p2
  have HN := HNw ST hST1 _ _ hO
  clear hO
  go_wp2_with fail
  refine HN.out.mono ?_
  rintro e w6 ⟨g, rfl, hO⟩
  clear HN HNw d0 d1 d2 d3 d4 d5 d6 d7
  have hpo := cpC_ok Hr.out ST hST1
  have hcw := HCw.out ST
  have hpt : (cpC c ST).ti = c.ti.toNat ∧ (cpC c ST).tk = limN c c.ps.length ∧ (cpC c ST).st = ST := ⟨rfl, rfl, rfl⟩
  obtain ⟨p, hpp⟩ : ∃ p, p = cpC c ST := ⟨_, rfl⟩
  rw [← hpp] at hO hpo hcw hpt
  obtain ⟨pti, ptk, pst⟩ := hpt
  clear HCw hpp
  have hO : Own W NoF (clA g p s0C :: memA 92 m ws [] :: row (.slice pw ws.length cw) 3 1 ws.length (intC ws) :: [blk W.heap.size (cfO c (.slice pp c.ps.length cp) (.slice pl c.ls.length cl))]) w6 := hO
  have hPl := Lib.hid (Claim_play g m p _ s0C ws [] [] 100 0 (by decide) (by decide) (pksAt_nil _) (by decide) hpo (fun q hq => by simp at hq) hcw (s0C_ok hpo) (Nat.zero_le _) hO)
  obtain ⟨n, s', ws', lg', eP, hA, hlg⟩ := claim_alone (M := clM g p) (ws := ws) (fun _ _ _ => rfl) hpo 100 (by decide) []
  rw [show (100 : Int).toNat = 100 from rfl, eP] at hPl
  have hHA := Lib.hid hA
  clear hO eP hA hlg
  go_wp2_with fail
  refine hPl.out.mono ?_
  rintro e w8 ⟨rfl, hO⟩
  have hO : Own W NoF (clA g p s' :: memA 92 m ws' lg' :: row (.slice pw ws.length cw) 3 1 ws.length (intC ws) :: [blk W.heap.size (cfO c (.slice pp c.ps.length cp) (.slice pl c.ls.length cl))]) w8 := hO
  clear hPl
  obtain ⟨d0, d1, d2, d3, d4, d5, d6, d7⟩ := conf_cells hO.p3
  obtain ⟨TI, hTI⟩ : ∃ TI, TI = c.ti.toNat := ⟨_, rfl⟩
  rw [← hTI] at t5 t6 HT4 pti HT2
  obtain ⟨TK, hTK⟩ : ∃ TK, TK = limN c c.ps.length := ⟨_, rfl⟩
  rw [← hTK] at HTi HrTi ptk HT2
  have HLen := Lib.hid (show ws.length = TK + 2 * TI by have := HLn.out; have := HT2.out; omega)
  have HO := Lib.hid hO
  have hs1 : IntKind.i64.wrap (c.ti - 1) = c.ti - 1 := IntWalk.i64_in _ (by have := HT4.out; omega)
  clear hO hTI hTK HT2 HLn
  go_wp2_with fail
  go_loopw [14, 15] (fun v14 v15 wr => ∃ (k : Nat) (F : Int), k ≤ TI ∧ v15 = .int .i64 ((k : Int) - 1) ∧ v14 = .int .i64 F ∧ FstI p ws k F ∧ Own W NoF (clA g p s' :: memA 92 m ws' lg' :: row (.slice pw ws.length cw) 3 1 ws.length (intC ws) :: [blk W.heap.size (cfO c (.slice pp c.ps.length cp) (.slice pl c.ls.length cl))]) wr) (fun v14 v15 _ => (intOf v15 + 1).toNat)
  case atStart => exact ⟨TI, -1, Nat.le_refl _, by rw [HT4.out], rfl, by rw [← pti]; exact FstI.start p ws, HO.out⟩
  case round =>
    obtain ⟨k, F, hk, rfl, rfl, hF, hO⟩ := hrel
    clear HO d0 d1 d2 d3 d4 d5 d6 d7
    match k, hk, hF with
    | k + 1, hk, hF =>
      have ek : (((k + 1 : Nat) : Int) - 1) = (k : Int) := by omega
      rw [ek]
      obtain ⟨d0, d1, d2, d3, d4, d5, d6, d7⟩ := conf_cells hO.p3
      obtain ⟨bw, ow, cw2, hvq, hcg⟩ := (show Own W NoF (row (.slice pw ws.length cw) 3 1 ws.length (intC ws) :: clA g p s' :: memA 92 m ws' lg' :: [blk W.heap.size (cfO c (.slice pp c.ps.length cp) (.slice pl c.ls.length cl))]) wr from hO.p2).intsAt.at (by omega)
      injection hvq with hvq hv1 hv2
      clear hv1
      subst hvq hv2
      have htl := tic_lt hpo k
      have hwl := cwd_in hpo hcw k
      have hwe : p.wd k = TK + 2 * p.tic k := by unfold CP.wd; rw [ptk]
      have x0 := hcg (p.wd k) hwl
      have hfr : freeC p ws k ↔ stS (ws.getD (p.wd k) 0) = 0 := Iff.rfl
      have hyI := hcw.wf (p.wd k)
      have Hno := Lib.hid (fun hf => FstI.no hF hf)
      have Hyes := Lib.hid (fun hf => FstI.yes (ws := ws) (p := p) (k := k) (by omega) hf)
      rw [hfr] at Hno Hyes
      generalize ws.getD (p.wd k) 0 = y at x0 hfr hyI Hno Hyes
      have HTk := fun w => Lib.hid (HrTi (p.tic k) (by omega) (by omega) w).out
      have hwe2 : (TK : Int) + 2 * ((p.tic k : Nat) : Int) = ((p.wd k : Nat) : Int) := by rw [hwe]; omega
      rw [hwe2] at HTk
      have hwl2 : ((p.wd k : Nat) : Int) < (ws.length : Int) := by omega
      have htm : ((ST : Int) + (k : Int)).tmod c.ti = ((p.tic k : Nat) : Int) := by
        rw [HT4.out, Int.tmod_eq_emod_of_nonneg (by omega)]; unfold CP.tic; rw [pst, pti, Int.natCast_emod, Int.natCast_add]
      have hsum : IntKind.i64.wrap ((ST : Int) + (k : Int)) = (ST : Int) + (k : Int) := IntWalk.i64_in _ (by omega)
      have hz : ¬ c.ti = 0 := by have := HT4.out; omega
      have hza : (c.ti == 0) = false := by simp; omega
      have HSt := fun w => Lib.hid (rState_any y hyI w)
      have hsub : IntKind.i64.wrap ((k : Int) - 1) = (k : Int) - 1 := IntWalk.i64_in _ (by omega)
      generalize hW : p.wd k = WD at *
      clear hW hwe hcg hF ek hyI hfr htl hwe2
      generalize p.tic k = TC at *
      have hO := hO.drew
      by_cases hy : stS y = 0
      · have hb : (stS y == 0) = true := by simp [hy]
        have HY := Lib.hid (Hyes.out hy)
        generalize stS y = Y at HSt hb
        clear Hno Hyes hy
        go_wp2_with fail
        go_region_held3 (fun w' => w'.cell? ⟨W.heap.size, 0, none⟩ = some (.int .i64 c.th) ∧ w'.cell? ⟨W.heap.size, 1, none⟩ = some (.int .i64 c.st) ∧ w'.cell? ⟨W.heap.size, 2, none⟩ = some (.int .i64 c.ga) ∧ w'.cell? ⟨W.heap.size, 3, none⟩ = some (.int .i64 c.le) ∧ w'.cell? ⟨W.heap.size, 4, none⟩ = some (.int .i64 c.re) ∧ w'.cell? ⟨W.heap.size, 5, none⟩ = some (.int .i64 c.ti) ∧ w'.cell? ⟨W.heap.size, 6, none⟩ = some (.slice pp c.ps.length cp) ∧ w'.cell? ⟨W.heap.size, 7, none⟩ = some (.slice pl c.ls.length cl) ∧ w'.cell? ⟨bw, ow + WD, none⟩ = some (.int .i64 y)) (go_keep)
          (first
            | (go_at_call 27; refine (HTk _).out.mono ?_; rintro e w20 ⟨rfl, hB⟩; have hO := Own.below (by with_reducible assumption) hB; obtain ⟨d0, d1, d2, d3, d4, d5, d6, d7⟩ := conf_cells hO.p3; have x0 := Stp.cell hB x0; clear hB)
            | (go_at_call 26; refine (HSt _).out.mono ?_; rintro e w21 ⟨rfl, hB⟩; have hO := Own.below (by with_reducible assumption) hB; obtain ⟨d0, d1, d2, d3, d4, d5, d6, d7⟩ := conf_cells hO.p3; have x0 := Stp.cell hB x0; clear hB))
        all_goals
          have HO := Lib.hid hO
          obtain ⟨d0, d1, d2, d3, d4, d5, d6, d7⟩ := conf_cells HO.out.p3
          clear hO x0
          go_wp2_with fail
          go_roundw
          case rel => exact ⟨k, _, by omega, rfl, rfl, HY.out, HO.out⟩
          case measure => simp [intOf]
      · have hb : (stS y == 0) = false := by simp [hy]
        have HY := Lib.hid (Hno.out hy)
        generalize stS y = Y at HSt hb
        clear Hno Hyes hy
        go_wp2_with fail
        go_region_held3 (fun w' => w'.cell? ⟨W.heap.size, 0, none⟩ = some (.int .i64 c.th) ∧ w'.cell? ⟨W.heap.size, 1, none⟩ = some (.int .i64 c.st) ∧ w'.cell? ⟨W.heap.size, 2, none⟩ = some (.int .i64 c.ga) ∧ w'.cell? ⟨W.heap.size, 3, none⟩ = some (.int .i64 c.le) ∧ w'.cell? ⟨W.heap.size, 4, none⟩ = some (.int .i64 c.re) ∧ w'.cell? ⟨W.heap.size, 5, none⟩ = some (.int .i64 c.ti) ∧ w'.cell? ⟨W.heap.size, 6, none⟩ = some (.slice pp c.ps.length cp) ∧ w'.cell? ⟨W.heap.size, 7, none⟩ = some (.slice pl c.ls.length cl) ∧ w'.cell? ⟨bw, ow + WD, none⟩ = some (.int .i64 y)) (go_keep)
          (first
            | (go_at_call 27; refine (HTk _).out.mono ?_; rintro e w20 ⟨rfl, hB⟩; have hO := Own.below (by with_reducible assumption) hB; obtain ⟨d0, d1, d2, d3, d4, d5, d6, d7⟩ := conf_cells hO.p3; have x0 := Stp.cell hB x0; clear hB)
            | (go_at_call 26; refine (HSt _).out.mono ?_; rintro e w21 ⟨rfl, hB⟩; have hO := Own.below (by with_reducible assumption) hB; obtain ⟨d0, d1, d2, d3, d4, d5, d6, d7⟩ := conf_cells hO.p3; have x0 := Stp.cell hB x0; clear hB))
        all_goals
          have HO := Lib.hid hO
          clear hO x0 d0 d1 d2 d3 d4 d5 d6 d7
          go_wp2_with fail
          go_roundw
          case rel => exact ⟨k, F, by omega, rfl, rfl, HY.out, HO.out⟩
          case measure => simp [intOf]
    | 0, hk, hF =>
      rw [show (((0 : Nat) : Int) - 1) = -1 from rfl]
      obtain ⟨f1, f2, f3, f4, f5, f6⟩ := alone_facts hpo hcw hHA.out hF
      rw [pti] at f3
      rw [ptk] at f4 f6
      have hwI := Lib.hid hcw.wf
      have HF4 := Lib.hid f4
      have HF5 := Lib.hid f5
      have HF6 := Lib.hid f6
      obtain ⟨d0, d1, d2, d3, d4, d5, d6, d7⟩ := conf_cells hO.p3
      have HWs := Lib.hid (Words_any (by omega) hO.swap)
      clear hO f4 f5 f6 hF
      go_wp2_with fail
      refine HWs.out.mono ?_
      rintro e w9 ⟨vv, rfl, hO⟩
      clear HWs d0 d1 d2 d3 d4 d5 d6 d7
      rw [f1] at hO
      obtain ⟨pv2, cv2, rfl⟩ := row_slice hO
      have hO : Own W NoF (row (.slice pv2 ws.length cv2) 3 1 ws.length (intC ws') :: clA g p s' :: row (.slice pw ws.length cw) 3 1 ws.length (intC ws) :: [blk W.heap.size (cfO c (.slice pp c.ps.length cp) (.slice pl c.ls.length cl))]) w9 := hO.under fun _ _ h => h.drop
      have HO := Lib.hid hO
      have qln : ((ws.length : Int) != (ws.length : Int)) = false := by simp
      clear hO
      go_wp2_with fail
      go_loopw [17] (fun v17 wr => ∃ i : Nat, i ≤ ws.length ∧ v17 = .int .i64 i ∧ Own W NoF (row (.slice pv2 ws.length cv2) 3 1 ws.length (intC ws') :: clA g p s' :: row (.slice pw ws.length cw) 3 1 ws.length (intC ws) :: [blk W.heap.size (cfO c (.slice pp c.ps.length cp) (.slice pl c.ls.length cl))]) wr) (fun v17 _ => ws.length - (intOf v17).toNat)
      case atStart => exact ⟨0, Nat.zero_le _, rfl, HO.out⟩
      case round =>
        obtain ⟨i, hi, rfl, hO⟩ := hrel
        clear HO
        obtain ⟨d0, d1, d2, d3, d4, d5, d6, d7⟩ := conf_cells hO.p3
        by_cases hin : i < ws.length
        · have hii : (i : Int) < (ws.length : Int) := by omega
          obtain ⟨bw, ow, cw2, hvq, hcg⟩ := (show Own W NoF (row (.slice pw ws.length cw) 3 1 ws.length (intC ws) :: row (.slice pv2 ws.length cv2) 3 1 ws.length (intC ws') :: clA g p s' :: [blk W.heap.size (cfO c (.slice pp c.ps.length cp) (.slice pl c.ls.length cl))]) wr from hO.p2).intsAt.at (by omega)
          injection hvq with hvq hv1 hv2
          clear hv1
          subst hvq hv2
          obtain ⟨bv, ov, cv3, hvq, hcv⟩ := (show IntsAt wr .i64 (.slice pv2 ws'.length cv2) ws' by rw [f1]; exact Own.intsAt (zs := ws') (by rw [f1]; exact hO)).at (by omega)
          injection hvq with hvq hv1 hv2
          clear hv1
          subst hvq hv2
          have z0 := hcv i (by omega)
          have z1 := hcg i hin
          have HD := Lib.hid (HF4.out i hin)
          generalize ws'.getD i 0 = y0 at z0 HD
          generalize ws.getD i 0 = y1 at z1 HD
          have HO := Lib.hid (fun dq osq => hO.below (below_regrown wr dq osq))
          clear hcg hcv hO
          by_cases hne : y0 = y1
          · have g1 : (y0 != y1) = false := by simp [hne]
            clear HD hne
            go_wp2_with fail
            have k0 := cell_regrown d0
            have k1 := cell_regrown d1
            have k2 := cell_regrown d2
            have k3 := cell_regrown d3
            have k4 := cell_regrown d4
            have k5 := cell_regrown d5
            have k6 := cell_regrown d6
            have k7 := cell_regrown d7
            have k8 := cell_regrown z0
            have k9 := cell_regrown z1
            clear d0 d1 d2 d3 d4 d5 d6 d7 z0 z1
            try dsimp only [List.append]
            refine wp_region_quiet_below (by kernel_rfl) (by kernel_rfl) ?_
            repeat (go_big_quiet_step ((go_at_call 28; with_reducible exact C1 _ _)))
            refine wpQuiet_nil ?_
            intro _ hw'
            obtain ⟨⟨dq, osq⟩, hw''⟩ := hw'
            subst hw''
            have HO2 := Lib.hid (HO.out dq osq)
            clear HO k0 k1 k2 k3 k4 k5 k6 k7 k8 k9
            go_wp2_with fail
            go_roundw
            case rel => exact ⟨i + 1, by omega, by go_num, HO2.out⟩
            case measure => simp [intOf]; omega
          · obtain ⟨F0, hiF⟩ := HD.out hne
            have g1 : (y0 != y1) = true := by rw [bne_iff_ne]; exact hne
            have C1 := fun d os => Calls.regrown_of (HTi F F0 (by omega) (Go.Sort.grow (redrawn wr d) os)).out
            rw [← hiF] at C1
            have g2 : decide (F < 0) = false := decide_eq_false (by omega)
            have g3 : ((i : Int) != (i : Int)) = false := by simp
            clear HD hne hiF
            go_wp2_with fail
            have k0 := cell_regrown d0
            have k1 := cell_regrown d1
            have k2 := cell_regrown d2
            have k3 := cell_regrown d3
            have k4 := cell_regrown d4
            have k5 := cell_regrown d5
            have k6 := cell_regrown d6
            have k7 := cell_regrown d7
            have k8 := cell_regrown z0
            have k9 := cell_regrown z1
            clear d0 d1 d2 d3 d4 d5 d6 d7 z0 z1
            try dsimp only [List.append]
            refine wp_region_quiet_below (by kernel_rfl) (by kernel_rfl) ?_
            repeat (go_big_quiet_step ((go_at_call 28; with_reducible exact C1 _ _)))
            refine wpQuiet_nil ?_
            intro _ hw'
            obtain ⟨⟨dq, osq⟩, hw''⟩ := hw'
            subst hw''
            have HO2 := Lib.hid (HO.out dq osq)
            clear HO C1 k0 k1 k2 k3 k4 k5 k6 k7 k8 k9
            go_wp2_with fail
            go_roundw
            case rel => exact ⟨i + 1, by omega, by go_num, HO2.out⟩
            case measure => simp [intOf]; omega
        · obtain rfl : i = ws.length := by omega
          rcases f2 with f2 | f2
          · obtain ⟨e1, e2, e3⟩ := HF5.out f2
            have HA := fun L w (h : Own W NoF (clA g p s' :: L) w) => Lib.hid (clAns_any h)
            have HWo := fun L w (h : Own W NoF (clA g p s' :: L) w) => Lib.hid (clWord_any h)
            rw [e1, e2] at HA
            rw [e3] at HWo
            unfold ansV at HA
            have qq := ans_refl 3 0 false 0
            have HO := Lib.hid hO.swap
            subst f2
            clear hO e1 e2 e3 HF4 HF5 HF6 hHA hcw hpo d0 d1 d2 d3 d4 d5 d6 d7
            go_wp2_with fail
            refine (HA _ _ HO.out).out.mono ?_
            rintro e w10 ⟨rfl, hB⟩
            have HO := Lib.hid (HO.out.below hB)
            clear hB HA
            go_wp2_with fail
            refine (HWo _ _ HO.out).out.mono ?_
            rintro e w11 ⟨rfl, hB⟩
            have HB := Lib.hid (HO.out.below hB).toBelow
            clear hB HWo HO
            go_wp2_with fail
            go_ret
            exact ⟨rfl, HB.out⟩
          · obtain ⟨e1, e2, e3, e4, e5, e6⟩ := HF6.out f2
            obtain ⟨A, hA⟩ : ∃ A : Nat, A = TK + 2 * F.toNat := ⟨_, rfl⟩
            have hA2 : (TK : Int) + 2 * F = (A : Int) := by omega
            have hA3 : A < ws.length := by have := HLen.out; omega
            have hA4 : (A : Int) < (ws.length : Int) := by omega
            rw [← hA] at e3 e5
            have HTF := fun w => Lib.hid (HTi F f2 (by omega) w).out
            rw [hA2] at HTF
            obtain ⟨bw, ow, cw2, hvq, hcg⟩ := (show Own W NoF (row (.slice pw ws.length cw) 3 1 ws.length (intC ws) :: row (.slice pv2 ws.length cv2) 3 1 ws.length (intC ws') :: clA g p s' :: [blk W.heap.size (cfO c (.slice pp c.ps.length cp) (.slice pl c.ls.length cl))]) wr from hO.p2).intsAt.at (by omega)
            injection hvq with hvq hv1 hv2
            clear hv1
            subst hvq hv2
            obtain ⟨bv, ov, cv3, hvq, hcv⟩ := (show IntsAt wr .i64 (.slice pv2 ws'.length cv2) ws' by rw [f1]; exact Own.intsAt (zs := ws') (by rw [f1]; exact hO)).at (by omega)
            injection hvq with hvq hv1 hv2
            clear hv1
            subst hvq hv2
            have z0 := hcv A (by omega)
            have z1 := hcg A hA3
            rw [e3] at z0
            have HA := fun L w (h : Own W NoF (clA g p s' :: L) w) => Lib.hid (clAns_any h)
            have HWo := fun L w (h : Own W NoF (clA g p s' :: L) w) => Lib.hid (clWord_any h)
            rw [e1, e2] at HA
            unfold ansV at HA
            have HSs := fun w => Lib.hid (sState_any s'.put e6 w)
            rw [e4] at HSs
            generalize s'.put = P at z0 HWo HSs e5
            generalize ws.getD A 0 = Y at z1 e5
            have qq := ans_refl 0 F false 0
            have q1 : (P == P) = true := by simp
            have q2 : (P != Y) = true := by rw [bne_iff_ne]; exact e5
            have g2 : decide (F < 0) = false := decide_eq_false (by omega)
            have HO := Lib.hid hO.swap
            clear hO hcg hcv e1 e2 e3 e4 e5 e6 hA hA2 HF4 HF5 HF6 hHA hcw hpo
            go_wp2_with fail
            refine (HTF _).out.mono ?_
            rintro e w10 ⟨rfl, hB⟩
            have HO := Lib.hid (HO.out.below hB).drew
            have z0 := Stp.cell hB z0
            have z1 := Stp.cell hB z1
            clear hB HTF d0 d1 d2 d3 d4 d5 d6 d7
            go_wp2_with fail
            try dsimp only [List.append]
            go_region_held3 (fun w' => w'.cell? ⟨bv, ov + A, none⟩ = some (.int .i64 P) ∧ w'.cell? ⟨bw, ow + A, none⟩ = some (.int .i64 Y)) (go_keep)
              (first
                | (go_at_call 18; refine (HA _ _ HO.out).out.mono ?_; rintro e w12 ⟨rfl, hB⟩; have HO := Lib.hid (HO.out.below hB); have z0 := Stp.cell hB z0; have z1 := Stp.cell hB z1; clear hB)
                | (go_at_call 20; refine (HWo _ _ HO.out).out.mono ?_; rintro e w13 ⟨rfl, hB⟩; have HO := Lib.hid (HO.out.below hB); have z0 := Stp.cell hB z0; have z1 := Stp.cell hB z1; clear hB)
                | (go_at_call 29; refine (HSs _).out.mono ?_; rintro e w14 ⟨rfl, hB⟩; have HO := Lib.hid (HO.out.below hB); have z0 := Stp.cell hB z0; have z1 := Stp.cell hB z1; clear hB))
            all_goals
              go_wp2_with fail
              go_ret
              exact ⟨rfl, HO.out.toBelow⟩
theorem ClaimAlone_calls (W : World) (c : Cf) (vp vl : Value) (hwd : Wide c) (hp : IntsAt W .i64 vp c.ps) (hl : IntsAt W .i64 vl c.ls) (v : Value) (zs : List Int) (hm : zs.length ≤ maxLen) (hzw : ∀ n ∈ zs, (Lit.int .i64 n).wf = true) (hv : IntsAt W .i64 v zs) (st : Int) (st0 : IntKind.u16.min ≤ st) (st1 : st ≤ IntKind.u16.max) :
    Calls Try.prog 4 #[cfV c vp vl, v, .int .u16 st] W fun e w' => e = .returned (.bool true) ∧ Below W.heap.size W w' := by
  have hz : ∀ n ∈ zs, I64 n := fun n hn => law_wf (hzw n hn)
  by_cases hg : GoodC c zs.length 0
  · exact ClaimAlone_main W c hwd hp hl hv hz hm hg st st0 st1
  · exact ClaimAlone_bad W c hwd hp hl hv hz hm hg st st0 st1
end Go.Proofs.Ytljimbkafijnnaa
