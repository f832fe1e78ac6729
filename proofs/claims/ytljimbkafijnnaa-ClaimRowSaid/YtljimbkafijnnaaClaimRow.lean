/- ClaimRow. Written by tools/gen_claim*.py. -/
import Derived.Test.YtljimbkafijnnaaClaimRows
import Derived.Lib.QuietBelow
import Derived.Deep.RegionWith
namespace Go.Proofs.Ytljimbkafijnnaa
open Go.ChangeShapes Go.WideShapes Go.ChangeAt Go.RowKit Go.Shelf
set_option linter.unusedVariables false
set_option linter.unusedSimpArgs false
set_option maxRecDepth 100000
theorem ClaimRow_bad (W : World) (c : Cf) {vp vl v : Value} {zs : List Int} (hwd : Wide c) (hp : IntsAt W .i64 vp c.ps) (hl : IntsAt W .i64 vl c.ls) (hv : IntsAt W .i64 v zs) (hz : ∀ n ∈ zs, I64 n) (hm : zs.length ≤ maxLen) (hg : ¬ GoodC c zs.length 0) (st : Int) (st0 : 0 ≤ st) (st1 : st ≤ 65535) :
    Calls Try.prog 8 #[cfV c vp vl, v, .int .u16 st] W fun e w' => e = .returned (.bool true) ∧ Below W.heap.size W w' := by
  obtain ⟨pp, cp, rfl⟩ := hp.slice
  obtain ⟨pl, cl, rfl⟩ := hl.slice
  obtain ⟨pv, cv, rfl⟩ := hv.slice
  have h0 := (Own.start W).new (cfO c (.slice pp c.ps.length cp) (.slice pl c.ls.length cl))
  have Hh := Lib.hid (head11_any h0)
  unfold maxLen at *
  have HG := fun w' (hb : Stp W w') => Lib.hid (cGood_no (w := w') (pe := pv) (pk := none) (ce := cv) (ck := 0) hwd (hp.stp hb) (hl.stp hb) (by omega) (by omega) hg)
  clear h0 hp hl hv hg hwd hz
  go_enter Try.func8, Try.ntmps8
  go_wp2_with fail
  refine Hh.out.mono ?_
  rintro e w1 ⟨rfl, hO⟩
  obtain ⟨d0, d1, d2, d3, d4, d5, d6, d7⟩ := conf_cells hO
  go_wp2_with fail
  refine (HG _ hO.toBelow).out.mono ?_
  rintro e w2 ⟨rfl, hB⟩
  have hO := hO.below hB
  clear hB HG Hh d0 d1 d2 d3 d4 d5 d6 d7
  have HB := Lib.hid hO.toBelow
  clear hO
  go_wp2_with fail
  go_ret
  exact ⟨rfl, HB.out⟩
set_option maxHeartbeats 20000000 in
theorem ClaimRow_main (W : World) (c : Cf) {vp vl v : Value} {zs : List Int} (hwd : Wide c) (hp : IntsAt W .i64 vp c.ps) (hl : IntsAt W .i64 vl c.ls) (hv : IntsAt W .i64 v zs) (hz : ∀ n ∈ zs, I64 n) (hm : zs.length ≤ maxLen) (hg : GoodC c zs.length 0) (st : Int) (st0 : 0 ≤ st) (st1 : st ≤ 65535) :
    Calls Try.prog 8 #[cfV c vp vl, v, .int .u16 st] W fun e w' => e = .returned (.bool true) ∧ Below W.heap.size W w' := by
  obtain ⟨pp, cp, rfl⟩ := hp.slice
  obtain ⟨pl, cl, rfl⟩ := hl.slice
  obtain ⟨pv, cv, rfl⟩ := hv.slice
  have h0 := (Own.start W).new (cfO c (.slice pp c.ps.length cp) (.slice pl c.ls.length cl))
  have Hh := Lib.hid (head11_any h0)
  have hr := hg.rt
  have h40 := hg.l
  have HG := fun w' (hb : Stp W w') => Lib.hid (cGood_yes (w := w') (pe := pv) (pk := none) (ce := cv) (ck := 0) hwd (hp.stp hb) (hl.stp hb) hg)
  have HWd := fun w L (h : Own W NoF L w) => Lib.hid (cWords_any hr hp hl hv h40 h)
  have HNw := fun st (h0 : st ≤ 1000) w L (h : Own W NoF L w) => Lib.hid (clNew_any (w0 := W) (F0 := NoF) (L := L) (w := w) (pp := pp) (cp := cp) (pl := pl) (cl := cl) c hr st h0 h)
  have HCw := Lib.hid (fun st => clW_cw hr zs hz st (clR c zs))
  have hn1 := hr.n1
  obtain ⟨t1, t2, t3, t4, t5, t6⟩ := tk_eq hr
  have HTi := fun k k0 k1 w => Lib.hid (Ticket_q (pp := pp) (np := c.ps.length) (cp := cp) (pl := pl) (nl := c.ls.length) (cl := cl) c hr.sm hn1 k k0 k1 w)
  have HrTi := fun k k0 k1 w => Lib.hid (rTicket_q (pp := pp) (np := c.ps.length) (cp := cp) (pl := pl) (nl := c.ls.length) (cl := cl) c hr.sm hn1 k k0 k1 w)
  rw [t1] at HTi HrTi
  have Hr := Lib.hid hr
  have HT4 := Lib.hid t4
  have HT2 := Lib.hid t2
  clear t1 t2 t4
  clear h0 hp hl hv hg hwd hr
  go_enter Try.func8, Try.ntmps8
  go_wp2_with fail
  refine Hh.out.mono ?_
  rintro e w1 ⟨rfl, hO⟩
  obtain ⟨d0, d1, d2, d3, d4, d5, d6, d7⟩ := conf_cells hO
  go_wp2_with fail
  refine (HG _ hO.toBelow).out.mono ?_
  rintro e w2 ⟨rfl, hB⟩
  have hO := hO.below hB
  clear hB HG Hh d0 d1 d2 d3 d4 d5 d6 d7
  obtain ⟨d0, d1, d2, d3, d4, d5, d6, d7⟩ := conf_cells hO
  go_wp2_with fail
  refine (HWd _ _ hO).out.mono ?_
  rintro e w4 ⟨vw, rfl, hO⟩
  clear HWd d0 d1 d2 d3 d4 d5 d6 d7
  have hlen0 := clW_len c zs (clR c zs)
  obtain ⟨ws, hws⟩ : ∃ ws, ws = clW c zs (clR c zs) := ⟨_, rfl⟩
  rw [← hws] at hO HCw hlen0
  rw [← hlen0] at hO
  have HLn := Lib.hid hlen0
  have hlen : 2 ≤ ws.length ∧ ws.length ≤ 400 := by have := HT2.out; omega
  clear hlen0 hws
  have HLd := Lib.hid (pLaid_any (by omega) (by omega) hO)
  clear hO
  go_wp2_with fail
  refine HLd.out.mono ?_
  rintro e w5 ⟨m, rfl, hO⟩
  clear HLd
  have hO : Own W NoF (memA 92 m ws [] :: row vw 3 1 ws.length (intC ws) :: [blk W.heap.size (cfO c (.slice pp c.ps.length cp) (.slice pl c.ls.length cl))]) w5 := hO
  obtain ⟨pw, cw, rfl⟩ := row_slice (show Own W NoF (row vw 3 1 ws.length (intC ws) :: memA 92 m ws [] :: [blk W.heap.size (cfO c (.slice pp c.ps.length cp) (.slice pl c.ls.length cl))]) w5 from hO.swap)
  have hcw := HCw.out 0
  have hpt : (cpC c 0).ti = c.ti.toNat ∧ (cpC c 0).tk = limN c c.ps.length := ⟨rfl, rfl⟩
  have hlc := hcw.len
  have hwf := hcw.wf
  rw [hpt.1, hpt.2] at hlc
  have Hcp := Lib.hid (show ∀ st, (cpC c st).ti = c.ti.toNat ∧ (cpC c st).tk = limN c c.ps.length from fun _ => ⟨rfl, rfl⟩)
  have Hcok := Lib.hid (fun st h => cpC_ok Hr.out st h)
  obtain ⟨TI, hTI⟩ : ∃ TI, TI = c.ti.toNat := ⟨_, rfl⟩
  rw [← hTI] at t5 t6 HT4 hlc Hcp
  obtain ⟨TK, hTK⟩ : ∃ TK, TK = limN c c.ps.length := ⟨_, rfl⟩
  rw [← hTK] at HTi HrTi hlc Hcp
  obtain ⟨FR, hFR⟩ : ∃ FR : Nat, frees TK TI ws = (FR : Int) := ⟨(frees TK TI ws).toNat, by have := (frees_bd TK TI ws).1; omega⟩
  have hFb := (frees_bd TK TI ws).2
  have HO := Lib.hid hO
  clear hO hTI hTK HT2 HLn HCw hcw hpt
  go_wp2_with fail
  go_loopw [10, 11] (fun v10 v11 wr => ∃ k : Nat, k ≤ TI ∧ v11 = .int .i64 k ∧ v10 = .int .i64 (sK (frN TK ws) k) ∧ Own W NoF (memA 92 m ws [] :: row (.slice pw ws.length cw) 3 1 ws.length (intC ws) :: [blk W.heap.size (cfO c (.slice pp c.ps.length cp) (.slice pl c.ls.length cl))]) wr) (fun v10 v11 _ => TI - (intOf v11).toNat)
  case atStart => exact ⟨0, Nat.zero_le _, rfl, rfl, HO.out⟩
  case round =>
    obtain ⟨k, hk, rfl, rfl, hO⟩ := hrel
    clear HO
    obtain ⟨d0, d1, d2, d3, d4, d5, d6, d7⟩ := conf_cells hO.p2
    by_cases hkt : k < TI
    · have hkk : (k : Int) < c.ti := by have := HT4.out; omega
      have HTk := fun w => Lib.hid (HrTi k (by omega) (by omega) w).out
      obtain ⟨wd, hwd⟩ : ∃ wd : Nat, wd = TK + 2 * k := ⟨_, rfl⟩
      rw [show (TK : Int) + 2 * (k : Int) = (wd : Int) by omega] at HTk
      have hwl : (wd : Int) < (ws.length : Int) := by omega
      obtain ⟨bw, ow, cw2, hvq, hcg⟩ := (show Own W NoF (row (.slice pw ws.length cw) 3 1 ws.length (intC ws) :: memA 92 m ws [] :: [blk W.heap.size (cfO c (.slice pp c.ps.length cp) (.slice pl c.ls.length cl))]) wr from hO.swap).intsAt.at (by omega)
      injection hvq with hvq hv1 hv2
      clear hv1
      subst hvq hv2
      have x0 := hcg wd (by omega)
      have hsb := sK_le (f := frN TK ws) (g := fun _ => 1) k (fun j _ => (frN_bd TK ws j).2)
      have hsc := sK_pos (f := frN TK ws) k (fun j _ => (frN_bd TK ws j).1)
      rw [sK_const] at hsb
      have hfn : frN TK ws k = if stS (ws.getD wd 0) = 0 then 1 else 0 := by rw [hwd]; rfl
      have hnx : sK (frN TK ws) (k + 1) = sK (frN TK ws) k + frN TK ws k := rfl
      rw [hfn] at hnx
      have hyI := hwf wd
      generalize ws.getD wd 0 = y at x0 hyI hnx hfn
      generalize hsk : sK (frN TK ws) k = sk at *
      have HNx := Lib.hid hnx
      have HSt := fun w => Lib.hid (rState_any y hyI w)
      have HO := Lib.hid hO
      have hx0 := fun w' (hb : Below wr.heap.size wr w') => Stp.cell hb x0
      clear hO hcg hwd hfn hnx hsk hyI
      by_cases hy : stS y = 0
      · have hb0 : (stS y == 0) = true := by simp [hy]
        have HN2 := Lib.hid (show sK (frN TK ws) (k + 1) = sk + 1 by rw [HNx.out, if_pos hy])
        generalize stS y = Y at HSt hb0
        have hsw : IntKind.i64.wrap (sk + 1) = sk + 1 := IntWalk.i64_in _ (by omega)
        clear hy
        go_wp2_with fail
        refine (HTk _).out.mono ?_
        rintro e w20 ⟨rfl, hB⟩
        have HO := Lib.hid (HO.out.below hB)
        have x0 := hx0 _ hB
        clear hB HTk hx0 d0 d1 d2 d3 d4 d5 d6 d7
        go_wp2_with fail
        refine (HSt _).out.mono ?_
        rintro e w21 ⟨rfl, hB⟩
        have HO := Lib.hid (HO.out.below hB)
        clear hB HSt x0
        go_wp2_with fail
        go_roundw
        case rel => exact ⟨k + 1, by omega, by go_num, by rw [HN2.out], HO.out⟩
        case measure => simp [intOf]; omega
      · have hb0 : (stS y == 0) = false := by simp [hy]
        have HN2 := Lib.hid (show sK (frN TK ws) (k + 1) = sk by rw [HNx.out, if_neg hy]; omega)
        generalize stS y = Y at HSt hb0
        clear hy
        go_wp2_with fail
        refine (HTk _).out.mono ?_
        rintro e w20 ⟨rfl, hB⟩
        have HO := Lib.hid (HO.out.below hB)
        have x0 := hx0 _ hB
        clear hB HTk hx0 d0 d1 d2 d3 d4 d5 d6 d7
        go_wp2_with fail
        refine (HSt _).out.mono ?_
        rintro e w21 ⟨rfl, hB⟩
        have HO := Lib.hid (HO.out.below hB)
        clear hB HSt x0
        go_wp2_with fail
        go_roundw
        case rel => exact ⟨k + 1, by omega, by go_num, by rw [HN2.out], HO.out⟩
        case measure => simp [intOf]; omega
    · obtain rfl : k = TI := by omega
      have hkk : c.ti ≤ (k : Int) := by have := HT4.out; omega
      have e0 : sK (frN TK ws) k = (FR : Int) := hFR
      rw [e0]
      have h9 := (hO.under fun _ _ h => h.drop).new (ovO 16 fun _ => false)
      obtain ⟨B2, hB2⟩ : ∃ B2, B2 = wr.heap.size := ⟨_, rfl⟩
      rw [← hB2] at h9
      have hmk := fun w => make_bools16 w
      have h9 := h9.swap
      have HO := Lib.hid h9
      clear hO h9 e0
      go_wp2_with fail
      rw [← hB2]
      clear hB2 hmk d0 d1 d2 d3 d4 d5 d6 d7
      have hcw0 : CW (pC' TK k) ws := ⟨hlc, by omega, hwf⟩
      go_loopw [13] (fun v13 wr => ∃ (i : Nat) (wz : List Int) (lz : List Acc) (sn : Nat → Bool), i ≤ FR + 1 ∧ v13 = .int .i64 i ∧ CW (pC' TK k) wz ∧ lz.length ≤ 17 * i ∧ (i ≤ FR → frees TK k wz = (FR : Int) - i) ∧ (∀ t, sn t = true → stS (wz.getD (TK + 2 * t) 0) = 1) ∧ Own W NoF (memA 92 m wz lz :: blk B2 (ovO 16 sn) :: [blk W.heap.size (cfO c (.slice pp c.ps.length cp) (.slice pl c.ls.length cl))]) wr) (fun v13 _ => FR + 1 - (intOf v13).toNat)
      case atStart => exact ⟨0, ws, [], _, Nat.zero_le _, rfl, hcw0, by simp, fun _ => by rw [hFR]; omega, fun t h => by simp at h, HO.out⟩
      case round =>
        obtain ⟨i, wz, lz, sn, hi, rfl, hcz, hlz, hfz, hsn, hO⟩ := hrel
        clear HO
        by_cases hif : i ≤ FR
        · obtain ⟨d0, d1, d2, d3, d4, d5, d6, d7⟩ := conf_cells hO.p2
          have hii : (i : Int) ≤ (FR : Int) := by omega
          obtain ⟨SU, hSU⟩ : ∃ SU : Nat, (st + (i : Int)) % 1001 = (SU : Int) := ⟨((st + (i : Int)) % 1001).toNat, by omega⟩
          have hS1 : SU ≤ 1000 := by omega
          have es1 : (st + (i : Int)).tmod 1001 = (SU : Int) := by rw [← hSU]; exact Int.tmod_eq_emod_of_nonneg (by omega)
          have es2 : IntKind.i64.wrap (st + (i : Int)) = st + (i : Int) := IntWalk.i64_in _ (by omega)
          have es3 : IntKind.i64.wrap st = st := IntWalk.i64_in _ (by omega)
          have HN := HNw SU hS1 _ _ hO
          have hpo := Hcok.out SU hS1
          obtain ⟨pt, pk⟩ := Hcp.out SU
          have hcp : CW (cpC c SU) wz := ⟨by rw [pt, pk]; exact hcz.len, hcz.most, hcz.wf⟩
          obtain ⟨p, hpp⟩ : ∃ p, p = cpC c SU := ⟨_, rfl⟩
          rw [← hpp] at HN hpo pt pk hcp
          clear hO hSU hpp
          go_wp2_with fail
          refine HN.out.mono ?_
          rintro e w22 ⟨g, rfl, hO⟩
          clear HN es1 es2 es3
          have hPl := Lib.hid (Claim_play g m p _ s0C wz lz [] 100 1000 (by decide) (by decide) (pksAt_nil _) (by decide) hpo (fun q hq => by simp at hq) hcp (s0C_ok hpo) (by omega) hO)
          obtain ⟨n, s', wy, ly, eP, hA, hlg, hn17⟩ := claim_alone (M := clM g p) (ws := wz) (fun _ _ _ => rfl) hpo 100 (by decide) lz
          rw [show (100 : Int).toNat = 100 from rfl, eP] at hPl
          have hst := row_step hpo hcp hA
          rw [pt, pk] at hst
          clear hO eP hA
          go_wp2_with fail
          refine hPl.out.mono ?_
          rintro e w23 ⟨rfl, hO⟩
          have hO : Own W NoF (clA g p s' :: memA 92 m wy ly :: blk B2 (ovO 16 sn) :: [blk W.heap.size (cfO c (.slice pp c.ps.length cp) (.slice pl c.ls.length cl))]) w23 := hO
          clear hPl d0 d1 d2 d3 d4 d5 d6 d7
          have HA := Lib.hid (clAns_any hO)
          rw [show erC s' = erC' s' from rfl] at HA
          unfold ansV at HA
          rcases hst with ⟨q1, q2, q3, q4⟩ | ⟨q1, q2, q3, q4, q5, q6, q7, q8⟩
          · have hfr := hfz hif
            have hlt : (FR : Int) ≤ (i : Int) := by omega
            rw [q2, show ((s'.n : Nat) : Int) = 0 by rw [q3]; rfl] at HA
            rw [q4] at hO
            have HO := Lib.hid hO
            clear hO q1 q2 q3 q4 hfr hpo hcp
            go_wp2_with fail
            refine HA.out.mono ?_
            rintro e w24 ⟨rfl, hB⟩
            have hO := HO.out.below hB
            have h9 := hO.new (.cells #[.int .i64 3, .int .i64 0, .bool false, .int .i64 0] 46)
            obtain ⟨f0, f1, f2, f3, ff⟩ := a8Cells h9
            have HO2 := Lib.hid (h9.drop.drop)
            clear HA HO hO h9 hB
            have g1 : decide ((i : Int) < (FR : Int)) = false := decide_eq_false (by omega)
            go_wp2_with fail
            go_roundw
            case rel => exact ⟨i + 1, wz, ly, sn, by omega, by go_num, hcz, by omega, fun h => by omega, hsn, HO2.out⟩
            case measure => simp [intOf]; omega
          · have hfr := hfz hif
            have hlt : (i : Int) < (FR : Int) := by omega
            have hsf : sn s'.n = false := by
              cases hb : sn s'.n with
              | false => rfl
              | true => have := hsn _ hb; rw [q4] at this; exact absurd this (by decide)
            have hsn2 : ∀ t, (fun j => if j = s'.n then true else sn j) t = true → stS (wy.getD (TK + 2 * t) 0) = 1 := fun t ht => by
              by_cases e : t = s'.n
              · rw [e]; exact q5
              · simp only [e, if_false] at ht
                rw [q6 t e]; exact hsn t ht
            have HSN2 := Lib.hid hsn2
            have hcy : CW (pC' TK k) wy := ⟨by have := q8.len; rw [pt, pk] at this; exact this, q8.most, q8.wf⟩
            have hfy : i + 1 ≤ FR → frees TK k wy = (FR : Int) - ((i + 1 : Nat) : Int) := fun h => by rw [q7, hfr]; omega
            have HFY := Lib.hid hfy
            have HCY := Lib.hid hcy
            rw [q2] at HA
            have n16 : s'.n < 16 := by omega
            have n1 : ((s'.n : Nat) : Int) < c.ti := by have := HT4.out; omega
            have n2 : ((s'.n : Nat) : Int) < 16 := by omega
            have n3 : (0 : Int) ≤ ((s'.n : Nat) : Int) := by omega
            have HO := Lib.hid hO
            have HLy := Lib.hid (show ly.length ≤ 17 * (i + 1) by omega)
            clear hO q1 q2 q4 q5 q6 q7 q8 hfr hpo hcp hsn2 hcy hfy hsn hfz hlg hn17
            generalize s'.n = NN at *
            go_wp2_with fail
            refine HA.out.mono ?_
            rintro e w24 ⟨rfl, hB⟩
            have hO := HO.out.below hB
            have h9 := hO.new (.cells #[.int .i64 0, .int .i64 (NN : Int), .bool false, .int .i64 0] 46)
            obtain ⟨f0, f1, f2, f3, ff⟩ := a8Cells h9
            have es := ov_at h9.p3 NN n16
            rw [hsf] at es
            have efz : (w24.alloc (.cells #[.int .i64 0, .int .i64 (NN : Int), .bool false, .int .i64 0] 46)).frozen? ⟨B2, NN, none⟩ = false := h9.p3.unfrozen
            have HO2 := Lib.hid (((ov_set h9.p3 NN n16 true).under fun _ _ h => h.drop.drop).swap)
            obtain ⟨d0, d1, d2, d3, d4, d5, d6, d7⟩ := conf_cells h9.p4
            have g1 : decide ((i : Int) < (FR : Int)) = true := decide_eq_true (by omega)
            clear HA HO hO h9 hB hsf
            go_wp2_with fail
            go_roundw
            case rel => exact ⟨i + 1, wy, ly, _, by omega, by go_num, HCY.out, HLy.out, HFY.out, HSN2.out, HO2.out⟩
            case measure => simp [intOf]; omega
        · obtain rfl : i = FR + 1 := by omega
          have HB := Lib.hid hO.toBelow
          have g1 : decide (((FR + 1 : Nat) : Int) ≤ (FR : Int)) = false := decide_eq_false (by omega)
          have g2 : (FR : Int) < ((FR + 1 : Nat) : Int) := by omega
          clear hO
          go_wp2_with fail
          go_ret
          exact ⟨rfl, HB.out⟩
theorem ClaimRow_calls (W : World) (c : Cf) (vp vl : Value) (hwd : Wide c) (hp : IntsAt W .i64 vp c.ps) (hl : IntsAt W .i64 vl c.ls) (v : Value) (zs : List Int) (hm : zs.length ≤ maxLen) (hzw : ∀ n ∈ zs, (Lit.int .i64 n).wf = true) (hv : IntsAt W .i64 v zs) (st : Int) (st0 : IntKind.u16.min ≤ st) (st1 : st ≤ IntKind.u16.max) :
    Calls Try.prog 8 #[cfV c vp vl, v, .int .u16 st] W fun e w' => e = .returned (.bool true) ∧ Below W.heap.size W w' := by
  have hz : ∀ n ∈ zs, I64 n := fun n hn => law_wf (hzw n hn)
  by_cases hg : GoodC c zs.length 0
  · exact ClaimRow_main W c hwd hp hl hv hz hm hg st st0 st1
  · exact ClaimRow_bad W c hwd hp hl hv hz hm hg st st0 st1
end Go.Proofs.Ytljimbkafijnnaa
