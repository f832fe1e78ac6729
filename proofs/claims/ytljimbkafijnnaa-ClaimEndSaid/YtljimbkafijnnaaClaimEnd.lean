/- ClaimEnd. Written by tools/gen_claim*.py. -/
import Derived.Test.YtljimbkafijnnaaClaimHead
import Derived.Test.YtljimbkafijnnaaCrew
import Derived.Lib.QuietBelow
import Derived.Deep.RegionWith
namespace Go.Proofs.Ytljimbkafijnnaa
open Go.ChangeShapes Go.WideShapes Go.ChangeAt Go.RowKit Go.Shelf
set_option linter.unusedVariables false
set_option linter.unusedSimpArgs false
set_option maxRecDepth 100000
theorem ClaimEnd_bad (W : World) (c : Cf) {vp vl v : Value} {zs : List Int} (hwd : Wide c) (hp : IntsAt W .i64 vp c.ps) (hl : IntsAt W .i64 vl c.ls) (hv : IntsAt W .i64 v zs) (hz : ∀ n ∈ zs, I64 n) (hm : zs.length ≤ maxLen) (hg : ¬ GoodC c zs.length 0) (st : Int) (st0 : 0 ≤ st) (st1 : st ≤ 65535) (q : Int) (q0 : 0 ≤ q) (q1 : q ≤ 255) :
    Calls Try.prog 7 #[cfV c vp vl, v, .int .u16 st, .int .u8 q] W fun e w' => e = .returned (.bool true) ∧ Below W.heap.size W w' := by
  obtain ⟨pp, cp, rfl⟩ := hp.slice
  obtain ⟨pl, cl, rfl⟩ := hl.slice
  obtain ⟨pv, cv, rfl⟩ := hv.slice
  have h0 := (Own.start W).new (cfO c (.slice pp c.ps.length cp) (.slice pl c.ls.length cl))
  have Hh := Lib.hid (head11_any h0)
  unfold maxLen at *
  have HG := fun w' (hb : Stp W w') => Lib.hid (cGood_no (w := w') (pe := pv) (pk := none) (ce := cv) (ck := 0) hwd (hp.stp hb) (hl.stp hb) (by omega) (by omega) hg)
  clear h0 hp hl hv hg hwd hz
  go_enter Try.func7, Try.ntmps7
  go_wp2_with fail
  refine Hh.out.mono ?_
  rintro e w1 ⟨rfl, hO⟩
  obtain ⟨d0, d1, d2, d3, d4, d5, d6, d7⟩ := conf_cells hO
  go_wp2_with fail
  refine (HG _ hO.toBelow).out.mono ?_
  rintro e w2 ⟨rfl, hB⟩
  have hO := hO.below hB
  clear hB HG Hh d0 d1 d2 d3 d4 d5 d6 d7
  have HB := Lib.hid hO.toBelow
  clear hO
  go_wp2_with fail
  go_ret
  exact ⟨rfl, HB.out⟩
set_option maxHeartbeats 20000000 in
theorem ClaimEnd_main (W : World) (c : Cf) {vp vl v : Value} {zs : List Int} (hwd : Wide c) (hp : IntsAt W .i64 vp c.ps) (hl : IntsAt W .i64 vl c.ls) (hv : IntsAt W .i64 v zs) (hz : ∀ n ∈ zs, I64 n) (hm : zs.length ≤ maxLen) (hg : GoodC c zs.length 0) (st : Int) (st0 : 0 ≤ st) (st1 : st ≤ 65535) (q : Int) (q0 : 0 ≤ q) (q1 : q ≤ 255) :
    Calls Try.prog 7 #[cfV c vp vl, v, .int .u16 st, .int .u8 q] W fun e w' => e = .returned (.bool true) ∧ Below W.heap.size W w' := by
  obtain ⟨pp, cp, rfl⟩ := hp.slice
  obtain ⟨pl, cl, rfl⟩ := hl.slice
  obtain ⟨pv, cv, rfl⟩ := hv.slice
  have h0 := (Own.start W).new (cfO c (.slice pp c.ps.length cp) (.slice pl c.ls.length cl))
  have Hh := Lib.hid (head11_any h0)
  have hr := hg.rt
  have h40 := hg.l
  have HG := fun w' (hb : Stp W w') => Lib.hid (cGood_yes (w := w') (pe := pv) (pk := none) (ce := cv) (ck := 0) hwd (hp.stp hb) (hl.stp hb) hg)
  have HWd := fun w L (h : Own W NoF L w) => Lib.hid (cWords_any hr hp hl hv h40 h)
  have HNw := fun st (h0 : st ≤ 1000) w L (h : Own W NoF L w) => Lib.hid (clNew_any (w0 := W) (F0 := NoF) (L := L) (w := w) (pp := pp) (cp := cp) (pl := pl) (cl := cl) c hr st h0 h)
  have HCw := Lib.hid (fun st => clW_cw hr zs hz st (clR c zs))
  have hn1 := hr.n1
  obtain ⟨t1, t2, t3, t4, t5, t6⟩ := tk_eq hr
  have HTi := fun k k0 k1 w => Lib.hid (Ticket_q (pp := pp) (np := c.ps.length) (cp := cp) (pl := pl) (nl := c.ls.length) (cl := cl) c hr.sm hn1 k k0 k1 w)
  have HrTi := fun k k0 k1 w => Lib.hid (rTicket_q (pp := pp) (np := c.ps.length) (cp := cp) (pl := pl) (nl := c.ls.length) (cl := cl) c hr.sm hn1 k k0 k1 w)
  rw [t1] at HTi HrTi
  have Hr := Lib.hid hr
  have HT4 := Lib.hid t4
  have HT2 := Lib.hid t2
  clear t1 t2 t4
  obtain ⟨ST, hST⟩ : ∃ ST : Nat, st % 1001 = (ST : Int) := ⟨(st % 1001).toNat, by omega⟩
  have hST1 : ST ≤ 1000 := by omega
  have est : st.tmod 1001 = (ST : Int) := by rw [← hST]; exact Int.tmod_eq_emod_of_nonneg st0
  clear hST
  obtain ⟨K, hK⟩ : ∃ K : Nat, q % 10 = (K : Int) := ⟨(q % 10).toNat, by omega⟩
  have hK1 : K < 10 := by omega
  have eK : q.tmod 10 = (K : Int) := by rw [← hK]; exact Int.tmod_eq_emod_of_nonneg q0
  clear hK
  clear h0 hp hl hv hg hwd hr
  go_enter Try.func7, Try.ntmps7
  go_wp2_with fail
  refine Hh.out.mono ?_
  rintro e w1 ⟨rfl, hO⟩
  obtain ⟨d0, d1, d2, d3, d4, d5, d6, d7⟩ := conf_cells hO
  go_wp2_with fail
  refine (HG _ hO.toBelow).out.mono ?_
  rintro e w2 ⟨rfl, hB⟩
  have hO := hO.below hB
  clear hB HG Hh d0 d1 d2 d3 d4 d5 d6 d7
  obtain ⟨d0, d1, d2, d3, d4, d5, d6, d7⟩ := conf_cells hO
  go_wp2_with fail
  refine (HWd _ _ hO).out.mono ?_
  rintro e w4 ⟨vw, rfl, hO⟩
  clear HWd d0 d1 d2 d3 d4 d5 d6 d7
  have hlen0 := clW_len c zs (clR c zs)
  obtain ⟨ws, hws⟩ : ∃ ws, ws = clW c zs (clR c zs) := ⟨_, rfl⟩
  rw [← hws] at hO HCw hlen0
  rw [← hlen0] at hO
  have HLn := Lib.hid hlen0
  have hlen : 2 ≤ ws.length ∧ ws.length ≤ 400 := by have := HT2.out; omega
  clear hlen0 hws
  have HLd := Lib.hid (pLaid_any (by omega) (by omega) hO)
  clear hO
  go_wp2_with fail
  refine HLd.out.mono ?_
  rintro e w5 ⟨m, rfl, hO⟩
  clear HLd
  obtain ⟨d0, d1, d2, d3, d4, d5, d6, d7⟩ := conf_cells hO.p2
  have HN := HNw ST hST1 _ _ hO
  clear hO
  go_wp2_with fail
  refine HN.out.mono ?_
  rintro e w6 ⟨g, rfl, hO⟩
  clear HN HNw d0 d1 d2 d3 d4 d5 d6 d7
  have hpo := cpC_ok Hr.out ST hST1
  have hcw := HCw.out ST
  obtain ⟨p, hpp⟩ : ∃ p, p = cpC c ST := ⟨_, rfl⟩
  rw [← hpp] at hO hpo hcw
  have hPl := Lib.hid (Claim_play g m p _ s0C ws [] [] (K : Int) 0 (by decide) (by decide) (pksAt_nil _) (by omega) hpo (fun q hq => by simp at hq) hcw (s0C_ok hpo) (Nat.zero_le _) hO)
  obtain ⟨n, b, s', ws', lg', eP, hnK, hI, hE⟩ := claim_any (M := clM g p) (l := []) (fun _ _ _ => rfl) hpo (fun q hq => by simp at hq) hcw K
  rw [Int.toNat_natCast, eP] at hPl
  clear hO eP HCw hpp
  go_wp2_with fail
  refine hPl.out.mono ?_
  rintro e w8 ⟨rfl, hO⟩
  have hO : Own W NoF (clA g p s' :: memA 92 m ws' lg' :: row vw 3 1 ws.length (intC ws) :: [blk W.heap.size (cfO c (.slice pp c.ps.length cp) (.slice pl c.ls.length cl))]) w8 := hO
  clear hPl
  have HA := Lib.hid (clAns_any hO)
  cases b with
  | false =>
    have hi := (hI rfl).1
    have hk := (hI rfl).2
    obtain ⟨hn0, hp0⟩ := hi.ok.bad (hi.ok.open_ hi.open_)
    have her : erC s' = 0 := by unfold erC; rw [hi.open_]; simp
    have HWo := fun w (h : Own W NoF (clA g p s' :: memA 92 m ws' lg' :: row vw 3 1 ws.length (intC ws) :: [blk W.heap.size (cfO c (.slice pp c.ps.length cp) (.slice pl c.ls.length cl))]) w) => Lib.hid (clWord_any h)
    rw [hp0] at HWo
    rw [her, hn0] at HA
    unfold ansV at HA
    subst hk
    have HO := Lib.hid hO
    have qq := ans_refl 0 0 false 0
    clear hO hi hI hE hn0 hp0 her hnK
    go_wp2_with fail
    refine HA.out.mono ?_
    rintro e w9 ⟨rfl, hB⟩
    have hO := HO.out.below hB
    have h9 := hO.new (.cells #[.int .i64 0, .int .i64 0, .bool false, .int .i64 0] 46)
    obtain ⟨f0, f1, f2, f3, ff⟩ := a8Cells h9
    have HWo1 := HWo _ h9.drop
    have HO2 := Lib.hid h9
    clear hB HA HO hO h9 HWo
    go_wp2_with fail
    refine HWo1.out.mono ?_
    rintro e w10 ⟨rfl, hB⟩
    have HB := Lib.hid (HO2.out.below hB).toBelow
    clear hB HWo1 HO2 f0 f1 f2 f3 ff
    go_wp2_with fail
    go_ret
    exact ⟨rfl, HB.out⟩
  | true =>
    have he := hE rfl
    have hlg := he.len
    have hmu := he.mu
    have ht16 := hpo.t16
    have HSt := fun L w (h : Own W NoF (clA g p s' :: memA 92 m ws' lg' :: L) w) => Lib.hid (clStep_end hpo he.w he.ok (by omega) he.shut h)
    have HAn := fun L w (h : Own W NoF (clA g p s' :: L) w) => Lib.hid (clAns_any h)
    unfold ansV at HA HAn
    generalize erC s' = er at HA HAn
    generalize (s'.n : Int) = nn at HA HAn
    have HO := Lib.hid hO
    have HLg := Lib.hid hlg
    have hlgb : lg'.length ≤ 100 := by omega
    clear hO he hI hE hlg hmu ht16 hnK
    go_wp2_with fail
    refine HA.out.mono ?_
    rintro e w9 ⟨rfl, hB⟩
    have hO := HO.out.below hB
    have h9 := hO.new (.cells #[.int .i64 er, .int .i64 nn, .bool false, .int .i64 0] 46)
    have HO2 := Lib.hid h9
    obtain ⟨B2, hB2⟩ : ∃ B2, B2 = w9.heap.size := ⟨_, rfl⟩
    rw [← hB2] at HO2
    clear hB HA HO hO h9
    go_wp2_with fail
    rw [← hB2]
    go_loopw [15] (fun v15 wr => ∃ k : Nat, k ≤ 4 ∧ v15 = .int .i64 k ∧ Own W NoF (blk B2 (.cells #[.int .i64 er, .int .i64 nn, .bool false, .int .i64 0] 46) :: clA g p s' :: memA 92 m ws' lg' :: row vw 3 1 ws.length (intC ws) :: [blk W.heap.size (cfO c (.slice pp c.ps.length cp) (.slice pl c.ls.length cl))]) wr) (fun v15 _ => 4 - (intOf v15).toNat)
    case atStart => exact ⟨0, by omega, rfl, HO2.out⟩
    case round =>
      obtain ⟨k, hk, rfl, hO⟩ := hrel
      clear HO2 hB2
      by_cases hlt : k < 4
      · have HS := HSt _ _ hO.q2r
        clear hO HSt HAn
        go_wp2_with fail
        refine HS.out.mono ?_
        rintro e w10 ⟨rfl, hO⟩
        have HO := Lib.hid hO.q2
        clear HS hO
        go_wp2_with fail
        go_roundw
        case rel => exact ⟨k + 1, by omega, by go_num, HO.out⟩
        case measure => simp [intOf]; omega
      · obtain rfl : k = 4 := by omega
        obtain ⟨f0, f1, f2, f3, ff⟩ := a8Cells hO
        have HO := Lib.hid hO.drew
        have qq := ans_refl er nn false 0
        have qn : ((lg'.length : Int) == (n : Int)) = true := by rw [HLg.out]; simp
        clear hO HSt
        go_wp2_with fail
        try dsimp only [List.append]
        go_region_held3 (fun w' => w'.cell? ⟨B2, 0, none⟩ = some (.int .i64 er) ∧ w'.cell? ⟨B2, 1, none⟩ = some (.int .i64 nn) ∧ w'.cell? ⟨B2, 2, none⟩ = some (.bool false) ∧ w'.cell? ⟨B2, 3, none⟩ = some (.int .i64 0)) (go_keep)
          (first
            | (go_at_call 18; refine (HAn _ _ HO.out.swap).out.mono ?_; rintro e w12 ⟨rfl, hB⟩; have HO := Lib.hid (HO.out.below hB); obtain ⟨f0, f1, f2, f3, ff⟩ := a8Cells HO.out; clear hB)
            | (go_at_call 23; refine (Log_b (by omega) HO.out.p2).mono ?_; rintro e w14 ⟨v12, rfl, hA⟩; have hB := hA.toBelow; have HO := Lib.hid (HO.out.below hB); obtain ⟨f0, f1, f2, f3, ff⟩ := a8Cells HO.out; obtain ⟨pg, cg, rfl⟩ := row_slice hA; clear hB hA))
        all_goals
          go_wp2_with fail
          go_ret
          exact ⟨rfl, HO.out.toBelow⟩
theorem ClaimEnd_calls (W : World) (c : Cf) (vp vl : Value) (hwd : Wide c) (hp : IntsAt W .i64 vp c.ps) (hl : IntsAt W .i64 vl c.ls) (v : Value) (zs : List Int) (hm : zs.length ≤ maxLen) (hzw : ∀ n ∈ zs, (Lit.int .i64 n).wf = true) (hv : IntsAt W .i64 v zs) (st : Int) (st0 : IntKind.u16.min ≤ st) (st1 : st ≤ IntKind.u16.max) (q : Int) (q0 : IntKind.u8.min ≤ q) (q1 : q ≤ IntKind.u8.max) :
    Calls Try.prog 7 #[cfV c vp vl, v, .int .u16 st, .int .u8 q] W fun e w' => e = .returned (.bool true) ∧ Below W.heap.size W w' := by
  have hz : ∀ n ∈ zs, I64 n := fun n hn => law_wf (hzw n hn)
  by_cases hg : GoodC c zs.length 0
  · exact ClaimEnd_main W c hwd hp hl hv hz hm hg st st0 st1 q q0 q1
  · exact ClaimEnd_bad W c hwd hp hl hv hz hm hg st st0 st1 q q0 q1
end Go.Proofs.Ytljimbkafijnnaa
