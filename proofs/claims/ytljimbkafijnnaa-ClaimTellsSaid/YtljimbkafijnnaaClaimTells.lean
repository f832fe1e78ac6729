/- ClaimTells. Written by tools/gen_claim*.py. -/
import Derived.Test.YtljimbkafijnnaaClaimHead
import Derived.Test.YtljimbkafijnnaaCrew
import Derived.Lib.QuietBelow
import Derived.Deep.RegionWith
namespace Go.Proofs.Ytljimbkafijnnaa
open Go.ChangeShapes Go.WideShapes Go.ChangeAt Go.RowKit Go.Shelf
set_option linter.unusedVariables false
set_option linter.unusedSimpArgs false
set_option maxRecDepth 100000
theorem ClaimTells_bad (W : World) (c : Cf) {vp vl v vk : Value} {zs : List Int} {l : List Pk} (hwd : Wide c) (hp : IntsAt W .i64 vp c.ps) (hl : IntsAt W .i64 vl c.ls) (hv : IntsAt W .i64 v zs) (hz : ∀ n ∈ zs, I64 n) (hm : zs.length ≤ maxLen) (hk : PksAt W vk l) (hI : ∀ q ∈ l, I64 q.at_ ∧ I64 q.w ∧ I64 q.x) (hmk : l.length ≤ maxLen) (hg : ¬ GoodC c zs.length l.length) (st : Int) (st0 : 0 ≤ st) (st1 : st ≤ 65535) (q : Int) (q0 : 0 ≤ q) (q1 : q ≤ 255) :
    Calls Try.prog 3 #[cfV c vp vl, v, vk, .int .u16 st, .int .u8 q] W fun e w' => e = .returned (.bool true) ∧ Below W.heap.size W w' := by
  obtain ⟨pp, cp, rfl⟩ := hp.slice
  obtain ⟨pl, cl, rfl⟩ := hl.slice
  obtain ⟨pv, cv, rfl⟩ := hv.slice
  obtain ⟨pk, ck, rfl⟩ := PksAt.slice hk
  have h0 := (Own.start W).new (cfO c (.slice pp c.ps.length cp) (.slice pl c.ls.length cl))
  have Hh := Lib.hid (head11_any h0)
  unfold maxLen at *
  have HG := fun w' (hb : Stp W w') => Lib.hid (cGood_no (w := w') (pe := pv) (pk := pk) (ce := cv) (ck := ck) hwd (hp.stp hb) (hl.stp hb) (by omega) (by omega) hg)
  clear h0 hp hl hv hg hwd hz hk hI
  go_enter Try.func3, Try.ntmps3
  go_wp2_with fail
  refine Hh.out.mono ?_
  rintro e w1 ⟨rfl, hO⟩
  obtain ⟨d0, d1, d2, d3, d4, d5, d6, d7⟩ := conf_cells hO
  go_wp2_with fail
  refine (HG _ hO.toBelow).out.mono ?_
  rintro e w2 ⟨rfl, hB⟩
  have hO := hO.below hB
  clear hB HG Hh d0 d1 d2 d3 d4 d5 d6 d7
  have HB := Lib.hid hO.toBelow
  clear hO
  go_wp2_with fail
  go_ret
  exact ⟨rfl, HB.out⟩
set_option maxHeartbeats 20000000 in
theorem ClaimTells_main (W : World) (c : Cf) {vp vl v vk : Value} {zs : List Int} {l : List Pk} (hwd : Wide c) (hp : IntsAt W .i64 vp c.ps) (hl : IntsAt W .i64 vl c.ls) (hv : IntsAt W .i64 v zs) (hz : ∀ n ∈ zs, I64 n) (hm : zs.length ≤ maxLen) (hk : PksAt W vk l) (hI : ∀ q ∈ l, I64 q.at_ ∧ I64 q.w ∧ I64 q.x) (hmk : l.length ≤ maxLen) (hg : GoodC c zs.length l.length) (st : Int) (st0 : 0 ≤ st) (st1 : st ≤ 65535) (q : Int) (q0 : 0 ≤ q) (q1 : q ≤ 255) :
    Calls Try.prog 3 #[cfV c vp vl, v, vk, .int .u16 st, .int .u8 q] W fun e w' => e = .returned (.bool true) ∧ Below W.heap.size W w' := by
  obtain ⟨pp, cp, rfl⟩ := hp.slice
  obtain ⟨pl, cl, rfl⟩ := hl.slice
  obtain ⟨pv, cv, rfl⟩ := hv.slice
  obtain ⟨pk, ck, rfl⟩ := PksAt.slice hk
  have h0 := (Own.start W).new (cfO c (.slice pp c.ps.length cp) (.slice pl c.ls.length cl))
  have Hh := Lib.hid (head11_any h0)
  have hr := hg.rt
  have h40 := hg.l
  have hk40 := hg.p
  have HG := fun w' (hb : Stp W w') => Lib.hid (cGood_yes (w := w') (pe := pv) (pk := pk) (ce := cv) (ck := ck) hwd (hp.stp hb) (hl.stp hb) hg)
  have HWd := fun w L (h : Own W NoF L w) => Lib.hid (cWords_any hr hp hl hv h40 h)
  have HPk := fun w L (h : Own W NoF L w) => Lib.hid (cPokes_any hr hp hl hk hk40 hI h)
  have HPI := Lib.hid (poC_I (c := c) (l := l) (fun q hq => (hI q hq).2.2))
  have HNw := fun st (h0 : st ≤ 1000) w L (h : Own W NoF L w) => Lib.hid (clNew_any (w0 := W) (F0 := NoF) (L := L) (w := w) (pp := pp) (cp := cp) (pl := pl) (cl := cl) c hr st h0 h)
  have HCw := Lib.hid (fun st => clW_cw hr zs hz st (clR c zs))
  have hn1 := hr.n1
  obtain ⟨t1, t2, t3, t4, t5, t6⟩ := tk_eq hr
  have HTi := fun k k0 k1 w => Lib.hid (Ticket_q (pp := pp) (np := c.ps.length) (cp := cp) (pl := pl) (nl := c.ls.length) (cl := cl) c hr.sm hn1 k k0 k1 w)
  have HrTi := fun k k0 k1 w => Lib.hid (rTicket_q (pp := pp) (np := c.ps.length) (cp := cp) (pl := pl) (nl := c.ls.length) (cl := cl) c hr.sm hn1 k k0 k1 w)
  rw [t1] at HTi HrTi
  have Hr := Lib.hid hr
  have HT4 := Lib.hid t4
  have HT2 := Lib.hid t2
  clear t1 t2 t4
  obtain ⟨ST, hST⟩ : ∃ ST : Nat, st % 1001 = (ST : Int) := ⟨(st % 1001).toNat, by omega⟩
  have hST1 : ST ≤ 1000 := by omega
  have est : st.tmod 1001 = (ST : Int) := by rw [← hST]; exact Int.tmod_eq_emod_of_nonneg st0
  clear hST
  obtain ⟨K, hK⟩ : ∃ K : Nat, q % 50 = (K : Int) := ⟨(q % 50).toNat, by omega⟩
  have hK1 : K < 50 := by omega
  have eK : q.tmod 50 = (K : Int) := by rw [← hK]; exact Int.tmod_eq_emod_of_nonneg q0
  clear hK
  have HIp := fun w' (hb : Stp W w') => Lib.hid (hp.stp hb)
  have HIl := fun w' (hb : Stp W w') => Lib.hid (hl.stp hb)
  have HRn := fun p L w h => Lib.hid (rcNew_any (w0 := W) (F0 := NoF) (L := L) (w := w) c (vp := .slice pp c.ps.length cp) (vl := .slice pl c.ls.length cl) hr (fun w' h => (HIp w' h.toBelow).out) (fun w' h => (HIl w' h.toBelow).out) p h)
  clear h0 hp hl hv hg hwd hr hk hI
  go_enter Try.func3, Try.ntmps3
  go_wp2_with fail
  refine Hh.out.mono ?_
  rintro e w1 ⟨rfl, hO⟩
  obtain ⟨d0, d1, d2, d3, d4, d5, d6, d7⟩ := conf_cells hO
  go_wp2_with fail
  refine (HG _ hO.toBelow).out.mono ?_
  rintro e w2 ⟨rfl, hB⟩
  have hO := hO.below hB
  clear hB HG Hh d0 d1 d2 d3 d4 d5 d6 d7
  obtain ⟨d0, d1, d2, d3, d4, d5, d6, d7⟩ := conf_cells hO
  go_wp2_with fail
  refine (HWd _ _ hO).out.mono ?_
  rintro e w4 ⟨vw, rfl, hO⟩
  clear HWd d0 d1 d2 d3 d4 d5 d6 d7
  have hlen0 := clW_len c zs (clR c zs)
  obtain ⟨ws, hws⟩ : ∃ ws, ws = clW c zs (clR c zs) := ⟨_, rfl⟩
  rw [← hws] at hO HCw hlen0
  rw [← hlen0] at hO
  have HLn := Lib.hid hlen0
  have hlen : 2 ≤ ws.length ∧ ws.length ≤ 400 := by have := HT2.out; omega
  clear hlen0 hws
  have HLd := Lib.hid (pLaid_any (by omega) (by omega) hO)
  clear hO
  go_wp2_with fail
  refine HLd.out.mono ?_
  rintro e w5 ⟨m, rfl, hO⟩
  clear HLd
  have hO : Own W NoF (row vw 3 1 ws.length (intC ws) :: memA 92 m ws [] :: [blk W.heap.size (cfO c (.slice pp c.ps.length cp) (.slice pl c.ls.length cl))]) w5 := hO.swap
  obtain ⟨pw, cw, rfl⟩ := row_slice hO
  have hB := (hO.rowNil (e := 59) (size := 5)).new (.cells #[.slice pw ws.length cw, .slice none 0 0] 35)
  have hM : Own W NoF (memA 35 w5.heap.size ws [] :: memA 92 m ws [] :: [blk W.heap.size (cfO c (.slice pp c.ps.length cp) (.slice pl c.ls.length cl))]) _ := Own.toMem' (ws := ws) (l := []) (hB.under fun _ _ h => h.swap) rfl rfl rfl rfl
  obtain ⟨d0, d1, d2, d3, d4, d5, d6, d7⟩ := conf_cells hM.p2
  have HN := HNw ST hST1 _ _ hM
  clear hO hB hM HTi HrTi
  go_wp2_with fail
  generalize w5.heap.size = nb at HN ⊢
  refine HN.out.mono ?_
  rintro e w6 ⟨g, rfl, hO⟩
  clear HN HNw d0 d1 d2 d3 d4 d5 d6 d7
  have hpo := cpC_ok Hr.out ST hST1
  have hcw := HCw.out ST
  have hrc := rc_ok Hr.out ST
  have hpst : (ST : Int) = ((cpC c ST).st : Int) := rfl
  obtain ⟨p, hpp⟩ : ∃ p, p = cpC c ST := ⟨_, rfl⟩
  rw [← hpp] at hO hpo hcw hrc hpst
  have HRN := HRn p _ _ hO
  rw [← hpst] at HRN
  obtain ⟨d0, d1, d2, d3, d4, d5, d6, d7⟩ := conf_cells hO.p3
  clear hO HRn hpp hpst HCw
  go_wp2_with fail
  refine HRN.out.mono ?_
  rintro e w7 ⟨rk, a1, c1, a2, c2, rfl, hO⟩
  clear HRN HIp HIl d0 d1 d2 d3 d4 d5 d6 d7
  obtain ⟨d0, d1, d2, d3, d4, d5, d6, d7⟩ := conf_cells hO.p4
  have HP := HPk _ _ hO
  clear hO
  go_wp2_with fail
  refine HP.out.mono ?_
  rintro e w8 ⟨vp, rfl, hO⟩
  clear HP d0 d1 d2 d3 d4 d5 d6 d7
  have hv : PksAt w8 vp (poC c l) := Own.pksAt hO
  have hO : Own W NoF (row vp 88 3 (poC c l).length (pkC (poC c l)) :: rcA rk c a1 c.ps.length c1 a2 c.ls.length c2 p s0C :: clA g p s0C :: memA 35 nb ws [] :: memA 92 m ws [] :: [blk W.heap.size (cfO c (.slice pp c.ps.length cp) (.slice pl c.ls.length cl))]) w8 := hO
  have hPl := Lib.hid (Claim_play g m p vp s0C ws [] (poC c l) (K : Int) 0 (by decide) (by rw [poC_len]; omega) hv (by omega) hpo HPI.out hcw (s0C_ok hpo) (Nat.zero_le _) hO.p2.p4.swap)
  obtain ⟨n, B1, s', ws', lg', eP, hnK, hI2, hE2⟩ := claim_any (M := clM g p) (l := poC c l) (fun _ _ _ => rfl) hpo HPI.out hcw K
  have hPr0 := fun vp2 w (hv2 : PksAt w vp2 (poC c l)) (h : Own W NoF (rcA rk c a1 c.ps.length c1 a2 c.ls.length c2 p s0C :: memA 35 nb ws [] :: row vp2 88 3 (poC c l).length (pkC (poC c l)) :: clA g p s' :: memA 92 m ws' lg' :: row vp 88 3 (poC c l).length (pkC (poC c l)) :: [blk W.heap.size (cfO c (.slice pp c.ps.length cp) (.slice pl c.ls.length cl))]) w) => rClaim_play g rk nb K c a1 a2 c.ps.length c1 c.ls.length c2 p hrc vp2 ws (poC c l) (by rw [poC_len]; omega) (by omega) hpo hcw HPI.out hv2 (fun X Y w' h => Own.pksAt h.p2) h
  rw [Int.toNat_natCast, eP] at hPl
  rw [eP] at hPr0
  unfold RetPlay11 at hPr0
  simp only at hPr0
  have hPr := fun vp2 w hv2 h => Lib.hid (hPr0 vp2 w hv2 h)
  have hmost : ws'.length ≤ 10000 ∧ lg'.length ≤ 59 := by
    cases B1 with
    | true => have := hE2 rfl; exact ⟨this.w.most, by have := this.len; omega⟩
    | false => have := (hI2 rfl).1; exact ⟨this.w.most, by have := this.len; omega⟩
  have HLN := Lib.hid hmost.1
  have HLG := Lib.hid hmost.2
  clear hO hv eP hPr0 hI2 hE2 hnK hmost hrc hcw hpo
  go_wp2_with fail
  refine hPl.out.mono ?_
  rintro e w9 ⟨rfl, hO⟩
  have hO : Own W NoF (clA g p s' :: memA 92 m ws' lg' :: row vp 88 3 (poC c l).length (pkC (poC c l)) :: rcA rk c a1 c.ps.length c1 a2 c.ls.length c2 p s0C :: memA 35 nb ws [] :: [blk W.heap.size (cfO c (.slice pp c.ps.length cp) (.slice pl c.ls.length cl))]) w9 := hO
  obtain ⟨d0, d1, d2, d3, d4, d5, d6, d7⟩ := conf_cells hO.p5
  have HP := HPk _ _ hO
  clear hPl hO HPk
  go_wp2_with fail
  refine HP.out.mono ?_
  rintro e w10 ⟨vp2, rfl, hO⟩
  clear HP d0 d1 d2 d3 d4 d5 d6 d7
  have HPr := hPr vp2 _ (Own.pksAt hO) hO.p4.p5.swap
  clear hO hPr
  go_wp2_with fail
  refine HPr.out.mono ?_
  rintro e w11 ⟨rfl, hO⟩
  have hO : Own W NoF (rcA rk c a1 c.ps.length c1 a2 c.ls.length c2 p s' :: memA 35 nb ws' lg' :: row vp2 88 3 (poC c l).length (pkC (poC c l)) :: clA g p s' :: memA 92 m ws' lg' :: row vp 88 3 (poC c l).length (pkC (poC c l)) :: [blk W.heap.size (cfO c (.slice pp c.ps.length cp) (.slice pl c.ls.length cl))]) w11 := hO
  obtain ⟨vw2, vl2, hM⟩ := hO.swap.mem
  obtain ⟨pu, cu, rfl⟩ := row_slice hM.swap
  obtain ⟨pg, cg, rfl⟩ := row_slice hM.p2
  have e0 : w11.cell? ⟨nb, 0, none⟩ = some (.slice pu ws'.length cu) := hM.cell (i := 0) rfl
  have e1 : w11.cell? ⟨nb, 1, none⟩ = some (.slice pg lg'.length cg) := hM.cell (i := 1) rfl
  have HO := Lib.hid hM.drew
  have qq := ans_refl (erC s') (s'.n : Int) false 0
  clear hM hO HPr
  go_wp2_with fail
  try dsimp only [List.append]
  go_region_held3 (fun w' => w'.cell? ⟨nb, 0, none⟩ = some (.slice pu ws'.length cu) ∧ w'.cell? ⟨nb, 1, none⟩ = some (.slice pg lg'.length cg)) (go_keep)
    (first
      | (go_at_call 18; refine (clAns_any HO.out.p5).mono ?_; rintro e w12 ⟨rfl, hB⟩; have HO := Lib.hid (HO.out.below hB); have e0 := Stp.cell hB e0; have e1 := Stp.cell hB e1; clear hB; unfold ansV)
      | (go_at_call 19; refine (rcAns_any HO.out.p3).mono ?_; rintro e w13 ⟨rfl, hB⟩; have HO := Lib.hid (HO.out.below hB); have e0 := Stp.cell hB e0; have e1 := Stp.cell hB e1; clear hB; unfold ansV)
      | (go_at_call 20; refine (clWord_any HO.out.p5).mono ?_; rintro e w12 ⟨rfl, hB⟩; have HO := Lib.hid (HO.out.below hB); have e0 := Stp.cell hB e0; have e1 := Stp.cell hB e1; clear hB)
      | (go_at_call 21; refine (rcWord_any HO.out.p3).mono ?_; rintro e w13 ⟨rfl, hB⟩; have HO := Lib.hid (HO.out.below hB); have e0 := Stp.cell hB e0; have e1 := Stp.cell hB e1; clear hB)
      | (go_at_call 23; refine (Log_b (by have := HLG.out; omega) HO.out.p6).mono ?_; rintro e w14 ⟨v12, rfl, hA⟩; have hB := hA.toBelow; have HO := Lib.hid (HO.out.below hB); have e0 := Stp.cell hB e0; have e1 := Stp.cell hB e1; clear hB; have H9 := Lib.hid (SameLog_yes hA.logAt HO.out.p2.logAt (by have := HLG.out; omega)); clear hA)
      | (go_at_call 22; refine H9.out.mono ?_; rintro e w15 ⟨rfl, hD⟩; have hB := hD.below; have HO := Lib.hid (HO.out.below hB); have e0 := Stp.cell hB e0; have e1 := Stp.cell hB e1; clear hB; clear hD)
      | (go_at_call 25; refine (Words_b (by have := HLN.out; omega) HO.out.p6).mono ?_; rintro e w16 ⟨v14, rfl, hA⟩; have hB := hA.toBelow; have HO := Lib.hid (HO.out.below hB); have e0 := Stp.cell hB e0; have e1 := Stp.cell hB e1; clear hB; have H11 := Lib.hid (SameInts_yes hA.intsAt HO.out.swap.intsAt (by have := HLN.out; omega)); clear hA)
      | (go_at_call 24; refine H11.out.mono ?_; rintro e w17 ⟨rfl, hD⟩; have hB := hD.below; have HO := Lib.hid (HO.out.below hB); have e0 := Stp.cell hB e0; have e1 := Stp.cell hB e1; clear hB; clear hD))
  all_goals
    go_wp2_with fail
    go_ret
    exact ⟨rfl, HO.out.toBelow⟩
theorem ClaimTells_calls (W : World) (c : Cf) (vp vl : Value) (hwd : Wide c) (hp : IntsAt W .i64 vp c.ps) (hl : IntsAt W .i64 vl c.ls) (v : Value) (zs : List Int) (hm : zs.length ≤ maxLen) (hzw : ∀ n ∈ zs, (Lit.int .i64 n).wf = true) (hv : IntsAt W .i64 v zs) (vk : Value) (rows : List (List Int)) (hkm : rows.length ≤ maxLen) (hk3 : ∀ r ∈ rows, r.length = 3) (hkw : ∀ r ∈ rows, ∀ j, j < 3 → (Lit.int (([.i64, .i64, .i64] : List IntKind).getD j .i64) (r.getD j 0)).wf = true) (hkv : RowAt W vk rows.length (rowsC [.i64, .i64, .i64] rows)) (st : Int) (st0 : IntKind.u16.min ≤ st) (st1 : st ≤ IntKind.u16.max) (q : Int) (q0 : IntKind.u8.min ≤ q) (q1 : q ≤ IntKind.u8.max) :
    Calls Try.prog 3 #[cfV c vp vl, v, vk, .int .u16 st, .int .u8 q] W fun e w' => e = .returned (.bool true) ∧ Below W.heap.size W w' := by
  have hz : ∀ n ∈ zs, I64 n := fun n hn => law_wf (hzw n hn)
  obtain ⟨hlen, hk, hI⟩ := pks_in11 hk3 hkw hkv
  by_cases hg : GoodC c zs.length (pksOf rows).length
  · exact ClaimTells_main W c hwd hp hl hv hz hm hk hI (by rw [hlen]; exact hkm) hg st st0 st1 q q0 q1
  · exact ClaimTells_bad W c hwd hp hl hv hz hm hk hI (by rw [hlen]; exact hkm) hg st st0 st1 q q0 q1
end Go.Proofs.Ytljimbkafijnnaa
