/- ClaimMost. Written by tools/gen_claim*.py. -/
import Derived.Test.YtljimbkafijnnaaClaimRows
import Derived.Lib.QuietBelow
import Derived.Deep.RegionWith
namespace Go.Proofs.Ytljimbkafijnnaa
open Go.ChangeShapes Go.WideShapes Go.ChangeAt Go.RowKit Go.Shelf
set_option linter.unusedVariables false
set_option linter.unusedSimpArgs false
set_option maxRecDepth 100000
theorem ClaimMost_bad (W : World) (c : Cf) {vp vl v vk : Value} {zs : List Int} {l : List Pk} (hwd : Wide c) (hp : IntsAt W .i64 vp c.ps) (hl : IntsAt W .i64 vl c.ls) (hv : IntsAt W .i64 v zs) (hz : ∀ n ∈ zs, I64 n) (hm : zs.length ≤ maxLen) (hk : PksAt W vk l) (hI : ∀ q ∈ l, I64 q.at_ ∧ I64 q.w ∧ I64 q.x) (hmk : l.length ≤ maxLen) (hg : ¬ GoodC c zs.length l.length) (st : Int) (st0 : 0 ≤ st) (st1 : st ≤ 65535) :
    Calls Try.prog 5 #[cfV c vp vl, v, vk, .int .u16 st] W fun e w' => e = .returned (.bool true) ∧ Below W.heap.size W w' := by
  obtain ⟨pp, cp, rfl⟩ := hp.slice
  obtain ⟨pl, cl, rfl⟩ := hl.slice
  obtain ⟨pv, cv, rfl⟩ := hv.slice
  obtain ⟨pk, ck, rfl⟩ := PksAt.slice hk
  have h0 := (Own.start W).new (cfO c (.slice pp c.ps.length cp) (.slice pl c.ls.length cl))
  have Hh := Lib.hid (head11_any h0)
  unfold maxLen at *
  have HG := fun w' (hb : Stp W w') => Lib.hid (cGood_no (w := w') (pe := pv) (pk := pk) (ce := cv) (ck := ck) hwd (hp.stp hb) (hl.stp hb) (by omega) (by omega) hg)
  clear h0 hp hl hv hg hwd hz hk hI
  go_enter Try.func5, Try.ntmps5
  go_wp2_with fail
  refine Hh.out.mono ?_
  rintro e w1 ⟨rfl, hO⟩
  obtain ⟨d0, d1, d2, d3, d4, d5, d6, d7⟩ := conf_cells hO
  go_wp2_with fail
  refine (HG _ hO.toBelow).out.mono ?_
  rintro e w2 ⟨rfl, hB⟩
  have hO := hO.below hB
  clear hB HG Hh d0 d1 d2 d3 d4 d5 d6 d7
  have HB := Lib.hid hO.toBelow
  clear hO
  go_wp2_with fail
  go_ret
  exact ⟨rfl, HB.out⟩
set_option maxHeartbeats 20000000 in
theorem ClaimMost_main (W : World) (c : Cf) {vp vl v vk : Value} {zs : List Int} {l : List Pk} (hwd : Wide c) (hp : IntsAt W .i64 vp c.ps) (hl : IntsAt W .i64 vl c.ls) (hv : IntsAt W .i64 v zs) (hz : ∀ n ∈ zs, I64 n) (hm : zs.length ≤ maxLen) (hk : PksAt W vk l) (hI : ∀ q ∈ l, I64 q.at_ ∧ I64 q.w ∧ I64 q.x) (hmk : l.length ≤ maxLen) (hg : GoodC c zs.length l.length) (st : Int) (st0 : 0 ≤ st) (st1 : st ≤ 65535) :
    Calls Try.prog 5 #[cfV c vp vl, v, vk, .int .u16 st] W fun e w' => e = .returned (.bool true) ∧ Below W.heap.size W w' := by
  obtain ⟨pp, cp, rfl⟩ := hp.slice
  obtain ⟨pl, cl, rfl⟩ := hl.slice
  obtain ⟨pv, cv, rfl⟩ := hv.slice
  obtain ⟨pk, ck, rfl⟩ := PksAt.slice hk
  have h0 := (Own.start W).new (cfO c (.slice pp c.ps.length cp) (.slice pl c.ls.length cl))
  have Hh := Lib.hid (head11_any h0)
  have hr := hg.rt
  have h40 := hg.l
  have hk40 := hg.p
  have HG := fun w' (hb : Stp W w') => Lib.hid (cGood_yes (w := w') (pe := pv) (pk := pk) (ce := cv) (ck := ck) hwd (hp.stp hb) (hl.stp hb) hg)
  have HWd := fun w L (h : Own W NoF L w) => Lib.hid (cWords_any hr hp hl hv h40 h)
  have HPk := fun w L (h : Own W NoF L w) => Lib.hid (cPokes_any hr hp hl hk hk40 hI h)
  have HPI := Lib.hid (poC_I (c := c) (l := l) (fun q hq => (hI q hq).2.2))
  have HNw := fun st (h0 : st ≤ 1000) w L (h : Own W NoF L w) => Lib.hid (clNew_any (w0 := W) (F0 := NoF) (L := L) (w := w) (pp := pp) (cp := cp) (pl := pl) (cl := cl) c hr st h0 h)
  have HCw := Lib.hid (fun st => clW_cw hr zs hz st (clR c zs))
  have hn1 := hr.n1
  obtain ⟨t1, t2, t3, t4, t5, t6⟩ := tk_eq hr
  have HTi := fun k k0 k1 w => Lib.hid (Ticket_q (pp := pp) (np := c.ps.length) (cp := cp) (pl := pl) (nl := c.ls.length) (cl := cl) c hr.sm hn1 k k0 k1 w)
  have HrTi := fun k k0 k1 w => Lib.hid (rTicket_q (pp := pp) (np := c.ps.length) (cp := cp) (pl := pl) (nl := c.ls.length) (cl := cl) c hr.sm hn1 k k0 k1 w)
  rw [t1] at HTi HrTi
  have Hr := Lib.hid hr
  have HT4 := Lib.hid t4
  have HT2 := Lib.hid t2
  clear t1 t2 t4
  obtain ⟨ST, hST⟩ : ∃ ST : Nat, st % 1001 = (ST : Int) := ⟨(st % 1001).toNat, by omega⟩
  have hST1 : ST ≤ 1000 := by omega
  have est : st.tmod 1001 = (ST : Int) := by rw [← hST]; exact Int.tmod_eq_emod_of_nonneg st0
  clear hST
  clear h0 hp hl hv hg hwd hr hk hI
  go_enter Try.func5, Try.ntmps5
  go_wp2_with fail
  refine Hh.out.mono ?_
  rintro e w1 ⟨rfl, hO⟩
  obtain ⟨d0, d1, d2, d3, d4, d5, d6, d7⟩ := conf_cells hO
  go_wp2_with fail
  refine (HG _ hO.toBelow).out.mono ?_
  rintro e w2 ⟨rfl, hB⟩
  have hO := hO.below hB
  clear hB HG Hh d0 d1 d2 d3 d4 d5 d6 d7
  obtain ⟨d0, d1, d2, d3, d4, d5, d6, d7⟩ := conf_cells hO
  go_wp2_with fail
  refine (HWd _ _ hO).out.mono ?_
  rintro e w4 ⟨vw, rfl, hO⟩
  clear HWd d0 d1 d2 d3 d4 d5 d6 d7
  have hlen0 := clW_len c zs (clR c zs)
  obtain ⟨ws, hws⟩ : ∃ ws, ws = clW c zs (clR c zs) := ⟨_, rfl⟩
  rw [← hws] at hO HCw hlen0
  rw [← hlen0] at hO
  have HLn := Lib.hid hlen0
  have hlen : 2 ≤ ws.length ∧ ws.length ≤ 400 := by have := HT2.out; omega
  clear hlen0 hws
  have HLd := Lib.hid (pLaid_any (by omega) (by omega) hO)
  clear hO
  go_wp2_with fail
  refine HLd.out.mono ?_
  rintro e w5 ⟨m, rfl, hO⟩
  clear HLd
  obtain ⟨d0, d1, d2, d3, d4, d5, d6, d7⟩ := conf_cells hO.p2
  have HN := HNw ST hST1 _ _ hO
  clear hO HrTi
  go_wp2_with fail
  refine HN.out.mono ?_
  rintro e w6 ⟨g, rfl, hO⟩
  clear HN HNw d0 d1 d2 d3 d4 d5 d6 d7
  have hpo := cpC_ok Hr.out ST hST1
  have hcw := HCw.out ST
  have hpti : (cpC c ST).ti = c.ti.toNat := rfl
  obtain ⟨p, hpp⟩ : ∃ p, p = cpC c ST := ⟨_, rfl⟩
  rw [← hpp] at hO hpo hcw hpti
  clear HCw hpp
  obtain ⟨d0, d1, d2, d3, d4, d5, d6, d7⟩ := conf_cells hO.p3
  have HP := HPk _ _ hO
  clear hO HPk
  go_wp2_with fail
  refine HP.out.mono ?_
  rintro e w7 ⟨vp, rfl, hO⟩
  clear HP d0 d1 d2 d3 d4 d5 d6 d7
  have hv : PksAt w7 vp (poC c l) := Own.pksAt hO
  have hO : Own W NoF (row vp 88 3 (poC c l).length (pkC (poC c l)) :: clA g p s0C :: memA 92 m ws [] :: row vw 3 1 ws.length (intC ws) :: [blk W.heap.size (cfO c (.slice pp c.ps.length cp) (.slice pl c.ls.length cl))]) w7 := hO
  have hPl := Lib.hid (Claim_play g m p vp s0C ws [] (poC c l) 100 0 (by decide) (by rw [poC_len]; omega) hv (by decide) hpo HPI.out hcw (s0C_ok hpo) (Nat.zero_le _) hO.q2r)
  obtain ⟨n, s', ws', lg', eP, hE⟩ := claim_ends (M := clM g p) (l := poC c l) (fun _ _ _ => rfl) hpo HPI.out hcw 100 (by decide)
  rw [show (100 : Int).toNat = 100 from rfl, eP] at hPl
  obtain ⟨hmu, hn1'⟩ := hE.mu
  have hlgn := hE.len
  have hUn := hE.ld.un
  rw [hpti] at hmu
  clear hO hv eP hE hcw hpo hpti
  go_wp2_with fail
  refine hPl.out.mono ?_
  rintro e w8 ⟨rfl, hO⟩
  have hO : Own W NoF (clA g p s' :: memA 92 m ws' lg' :: row vp 88 3 (poC c l).length (pkC (poC c l)) :: row vw 3 1 ws.length (intC ws) :: [blk W.heap.size (cfO c (.slice pp c.ps.length cp) (.slice pl c.ls.length cl))]) w8 := hO
  have h9 := hO.new (ovO 16 fun _ => false)
  obtain ⟨B2, hB2⟩ : ∃ B2, B2 = w8.heap.size := ⟨_, rfl⟩
  rw [← hB2] at h9
  have hmk := fun w => make_bools16 w
  have HL := Lib.hid (Log_any (by omega) h9.p2)
  clear hPl hO h9
  go_wp2_with fail
  rw [← hB2]
  refine HL.out.mono ?_
  rintro e w9 ⟨vg, rfl, hO⟩
  clear HL hmk hB2
  obtain ⟨pg, cg, rfl⟩ := row_slice hO
  have hO : Own W NoF (row (.slice pg lg'.length cg) 59 5 lg'.length (logC lg') :: blk B2 (ovO 16 fun _ => false) :: [blk W.heap.size (cfO c (.slice pp c.ps.length cp) (.slice pl c.ls.length cl))]) w9 := hO.under fun _ _ h => (h.drop).under fun _ _ h => h.drop.drop.drop
  have HU := Lib.hid hUn
  have HLE := Lib.hid (show n = lg'.length from hlgn.symm)
  rw [hlgn] at hO ⊢
  obtain ⟨TI, hTI⟩ : ∃ TI, TI = c.ti.toNat := ⟨_, rfl⟩
  rw [← hTI] at hmu t5 t6 HT4
  obtain ⟨TK, hTK⟩ : ∃ TK, TK = limN c c.ps.length := ⟨_, rfl⟩
  rw [← hTK] at HTi
  have HO := Lib.hid hO
  clear hO hUn hlgn hTI hTK HT2 HLn hlen
  go_wp2_with fail
  go_loopw [16, 17] (fun v16 v17 wr => ∃ (i : Nat) (sn : Nat → Bool), i ≤ n ∧ v16 = .int .i64 i ∧ SeenI TK lg' sn i 0 ∧ Own W NoF (row (.slice pg n cg) 59 5 n (logC lg') :: blk B2 (ovO 16 sn) :: [blk W.heap.size (cfO c (.slice pp c.ps.length cp) (.slice pl c.ls.length cl))]) wr) (fun v16 v17 _ => n - (intOf v16).toNat)
  case atStart => exact ⟨0, _, Nat.zero_le _, rfl, SeenI.start TK lg', HO.out⟩
  case round =>
    obtain ⟨i, sn, hi, rfl, hsn, hO⟩ := hrel
    clear HO
    by_cases hin : i < n
    · have HO := Lib.hid hO
      have HSN := Lib.hid hsn
      have hii : (i : Int) < (n : Int) := by omega
      clear hO hsn
      go_wp2_with fail
      go_loopw [17] (fun v17 wr => ∃ (k : Nat) (sn : Nat → Bool), k ≤ TI ∧ v17 = .int .i64 k ∧ SeenI TK lg' sn i k ∧ Own W NoF (row (.slice pg n cg) 59 5 n (logC lg') :: blk B2 (ovO 16 sn) :: [blk W.heap.size (cfO c (.slice pp c.ps.length cp) (.slice pl c.ls.length cl))]) wr) (fun v17 _ => TI - (intOf v17).toNat)
      case atStart => exact ⟨0, sn, Nat.zero_le _, rfl, HSN.out, HO.out⟩
      case round =>
        obtain ⟨k, sm, hk, rfl, hsm, hO⟩ := hrel
        clear HO HSN
        obtain ⟨d0, d1, d2, d3, d4, d5, d6, d7⟩ := conf_cells hO.p2
        by_cases hkt : k < TI
        · have hkk : (k : Int) < c.ti := by have := HT4.out; omega
          have hLA : LogAt wr (.slice pg n cg) lg' := by
            have := HLE.out
            subst this
            exact hO.logAt
          obtain ⟨bg, og, cg2, hvq, hcg⟩ := hLA.at (by have := HLE.out; omega)
          injection hvq with hvq hv1 hv2
          clear hv1 hLA
          subst hvq hv2
          have x0 := hcg i 0 (by have := HLE.out; omega) (by omega)
          have x1 := hcg i 1 (by have := HLE.out; omega) (by omega)
          obtain ⟨x, hx⟩ : ∃ x, x = lg'.getD i ⟨0, 0, 0, 0, false⟩ := ⟨_, rfl⟩
          have hput := fun h1 h2 => SeenI.put hsm (by have := HLE.out; omega) h1 h2
          have hnone := fun h1 h2 => SeenI.none hsm HU.out (by have := HLE.out; omega) h1 h2
          rw [← hx] at x0 x1 hput hnone
          have hnext := hsm.next
          clear hcg hx hsm
          obtain ⟨y0, y1, y2, y3, y4⟩ := x
          have z0 : wr.cell? ⟨bg, og + i * 5, none⟩ = some (.int .i64 y0) := x0
          have z1 : wr.cell? ⟨bg, og + i * 5 + 1, none⟩ = some (.int .i64 y1) := x1
          clear x0 x1
          have C1 := fun d os => Calls.regrown_of (HTi k (by omega) (by omega) (Go.Sort.grow (redrawn wr d) os)).out
          have HO := Lib.hid (fun dq osq => hO.below (below_regrown wr dq osq))
          have hB3 : k < 16 := by omega
          have hB4 : (k : Int) < 16 := by omega
          clear hO
          by_cases hw : y1 = (TK : Int) + 2 * (k : Int)
          · by_cases hkd : y0 = 1
            · have hsf := hnone hkd hw
              have HPut := Lib.hid (hput hkd hw)
              subst hw hkd
              have g1 : (((TK : Int) + 2 * (k : Int)) == ((TK : Int) + 2 * (k : Int))) = true := by simp
              clear hput hnone hnext
              go_wp2_with fail
              have k0 := cell_regrown d0
              have k1 := cell_regrown d1
              have k2 := cell_regrown d2
              have k3 := cell_regrown d3
              have k4 := cell_regrown d4
              have k5 := cell_regrown d5
              have k6 := cell_regrown d6
              have k7 := cell_regrown d7
              have k8 := cell_regrown z0
              have k9 := cell_regrown z1
              clear d0 d1 d2 d3 d4 d5 d6 d7 z0 z1
              try dsimp only [List.append]
              refine wp_region_quiet_below (by kernel_rfl) (by kernel_rfl) ?_
              repeat (go_big_quiet_step ((go_at_call 28; with_reducible exact C1 _ _)))
              refine wpQuiet_nil ?_
              intro _ hw'
              obtain ⟨⟨dq, osq⟩, hw''⟩ := hw'
              subst hw''
              have hO := HO.out dq osq
              have es := ov_at hO.swap k hB3
              rw [hsf] at es
              have efz : (Go.Sort.grow (redrawn wr dq) osq).frozen? ⟨B2, k, none⟩ = false := hO.swap.unfrozen
              have HO2 := Lib.hid (ov_set hO.swap k hB3 true)
              clear hO HO hsf C1 k0 k1 k2 k3 k4 k5 k6 k7 k8 k9
              go_wp2_with fail
              go_roundw
              case rel => exact ⟨k + 1, _, by omega, by go_num, HPut.out, HO2.out.swap⟩
              case measure => simp [intOf]; omega
            · have Hnx := Lib.hid hnext
              subst hw
              have g1 : (((TK : Int) + 2 * (k : Int)) == ((TK : Int) + 2 * (k : Int))) = true := by simp
              have g2 : (y0 == 1) = false := by simp; omega
              clear hput hnone hnext
              go_wp2_with fail
              have k0 := cell_regrown d0
              have k1 := cell_regrown d1
              have k2 := cell_regrown d2
              have k3 := cell_regrown d3
              have k4 := cell_regrown d4
              have k5 := cell_regrown d5
              have k6 := cell_regrown d6
              have k7 := cell_regrown d7
              have k8 := cell_regrown z0
              have k9 := cell_regrown z1
              clear d0 d1 d2 d3 d4 d5 d6 d7 z0 z1
              try dsimp only [List.append]
              refine wp_region_quiet_below (by kernel_rfl) (by kernel_rfl) ?_
              repeat (go_big_quiet_step ((go_at_call 28; with_reducible exact C1 _ _)))
              refine wpQuiet_nil ?_
              intro _ hw'
              obtain ⟨⟨dq, osq⟩, hw''⟩ := hw'
              subst hw''
              have HO2 := Lib.hid (HO.out dq osq)
              clear HO C1 k0 k1 k2 k3 k4 k5 k6 k7 k8 k9
              go_wp2_with fail
              go_roundw
              case rel => exact ⟨k + 1, sm, by omega, by go_num, Hnx.out, HO2.out⟩
              case measure => simp [intOf]; omega
          · have Hnx := Lib.hid hnext
            have g1 : (y1 == ((TK : Int) + 2 * (k : Int))) = false := by simp; omega
            clear hput hnone hnext
            go_wp2_with fail
            have k0 := cell_regrown d0
            have k1 := cell_regrown d1
            have k2 := cell_regrown d2
            have k3 := cell_regrown d3
            have k4 := cell_regrown d4
            have k5 := cell_regrown d5
            have k6 := cell_regrown d6
            have k7 := cell_regrown d7
            have k8 := cell_regrown z0
            have k9 := cell_regrown z1
            clear d0 d1 d2 d3 d4 d5 d6 d7 z0 z1
            try dsimp only [List.append]
            refine wp_region_quiet_below (by kernel_rfl) (by kernel_rfl) ?_
            repeat (go_big_quiet_step ((go_at_call 28; with_reducible exact C1 _ _)))
            refine wpQuiet_nil ?_
            intro _ hw'
            obtain ⟨⟨dq, osq⟩, hw''⟩ := hw'
            subst hw''
            have HO2 := Lib.hid (HO.out dq osq)
            clear HO C1 k0 k1 k2 k3 k4 k5 k6 k7 k8 k9
            go_wp2_with fail
            go_roundw
            case rel => exact ⟨k + 1, sm, by omega, by go_num, Hnx.out, HO2.out⟩
            case measure => simp [intOf]; omega
        · obtain rfl : k = TI := by omega
          have hkk : c.ti ≤ (k : Int) := by have := HT4.out; omega
          have HO := Lib.hid hO
          have Hrow := Lib.hid hsm.row
          clear hO hsm
          go_wp2_with fail
          go_roundw
          case rel => exact ⟨i + 1, sm, by omega, by go_num, Hrow.out, HO.out⟩
          case measure => simp [intOf]; omega
    · obtain rfl : i = n := by omega
      obtain ⟨d0, d1, d2, d3, d4, d5, d6, d7⟩ := conf_cells hO.p2
      have HB := Lib.hid hO.toBelow
      have hm2 : IntKind.i64.wrap (2 * c.ti) = 2 * c.ti := IntWalk.i64_in _ (by have := HT4.out; omega)
      have q1 : (i : Int) ≤ 2 * c.ti := by have := HT4.out; omega
      have q2 : (1 : Int) ≤ (i : Int) := by omega
      have q3 : ((i : Int) == (i : Int)) = true := by simp
      clear hO hsn
      go_wp2_with fail
      go_ret
      exact ⟨rfl, HB.out⟩
theorem ClaimMost_calls (W : World) (c : Cf) (vp vl : Value) (hwd : Wide c) (hp : IntsAt W .i64 vp c.ps) (hl : IntsAt W .i64 vl c.ls) (v : Value) (zs : List Int) (hm : zs.length ≤ maxLen) (hzw : ∀ n ∈ zs, (Lit.int .i64 n).wf = true) (hv : IntsAt W .i64 v zs) (vk : Value) (rows : List (List Int)) (hkm : rows.length ≤ maxLen) (hk3 : ∀ r ∈ rows, r.length = 3) (hkw : ∀ r ∈ rows, ∀ j, j < 3 → (Lit.int (([.i64, .i64, .i64] : List IntKind).getD j .i64) (r.getD j 0)).wf = true) (hkv : RowAt W vk rows.length (rowsC [.i64, .i64, .i64] rows)) (st : Int) (st0 : IntKind.u16.min ≤ st) (st1 : st ≤ IntKind.u16.max) :
    Calls Try.prog 5 #[cfV c vp vl, v, vk, .int .u16 st] W fun e w' => e = .returned (.bool true) ∧ Below W.heap.size W w' := by
  have hz : ∀ n ∈ zs, I64 n := fun n hn => law_wf (hzw n hn)
  obtain ⟨hlen, hk, hI⟩ := pks_in11 hk3 hkw hkv
  by_cases hg : GoodC c zs.length (pksOf rows).length
  · exact ClaimMost_main W c hwd hp hl hv hz hm hk hI (by rw [hlen]; exact hkm) hg st st0 st1
  · exact ClaimMost_bad W c hwd hp hl hv hz hm hk hI (by rw [hlen]; exact hkm) hg st st0 st1
end Go.Proofs.Ytljimbkafijnnaa
