/- ShiftNever. Written by tools/gen_shift*.py. -/
import Derived.Test.YtlkiadionpnijaaShiftHead
import Derived.StillTailTactics
namespace Go.Proofs.Ytlkiadionpnijaa
open Go.ChangeShapes Go.WideShapes Go.ChangeAt Go.RowKit Go.Shelf
set_option linter.unusedVariables false
set_option linter.unusedSimpArgs false
set_option maxRecDepth 100000
variable {ws : List Int} {lg : List Acc}
theorem beq_fN {a b : Int} (h : ¬ a = b) : (a == b) = false := by rw [beq_eq_false_iff_ne]; exact h
theorem SN_step {J li av t : Nat} {n : Int} {l : List Pk} {s : QS} (hJ : J = 1 ∨ J = 2) (hne : li ≠ av) (n0 : 1 ≤ n) (n1 : n ≤ 1048576) (hpk : PkQ (shP J li av n) 1099511627776 l) (h : QJ (shP J li av n) 1099511627776 l t s ws lg) :
    (stepQ (shP J li av n) s (pokesAt t l ws) lg).2.2.1.length = t + 1 ∧ wrap64 (addW av (stepQ (shP J li av n) s (pokesAt t l ws) lg).2.2.1) ≤ wrap64 (addW li (stepQ (shP J li av n) s (pokesAt t l ws) lg).2.2.1) ∧
    ((stepQ (shP J li av n) s (pokesAt t l ws) lg).2.2.2 = false → QJ (shP J li av n) 1099511627776 l (t + 1) (stepQ (shP J li av n) s (pokesAt t l ws) lg).1 (stepQ (shP J li av n) s (pokesAt t l ws) lg).2.1 (stepQ (shP J li av n) s (pokesAt t l ws) lg).2.2.1) := by
  have hp := shP_ok (what := J) hne n0 n1
  obtain ⟨h1, h2, h3, h4, h5⟩ := h.step hp (by decide) (by decide) hpk
  have hphi := phiQ_bd s
  have hfl := stepQ_flag (ws := pokesAt t l ws) (lg := lg) h.ok
  have hok2 := QSOk.step (lg := lg) hp (hpk t _ ws (by omega) h.w) h.ok
  have hn := never hp hok2
  have hb := by_bd hp
  generalize stepQ (shP J li av n) s (pokesAt t l ws) lg = A at *
  have gf : -1048576 ≤ gF (shP J li av n) A.1 ∧ gF (shP J li av n) A.1 ≤ 1048576 := by unfold gF; split <;> omega
  have gl : -1048576 ≤ gL (shP J li av n) A.1 ∧ gL (shP J li av n) A.1 ≤ 1048576 := by unfold gL; split <;> omega
  refine ⟨h3, ?_, fun hf => h1 fun e => by rw [hf, e] at hfl; simp at hfl⟩
  have wid : ∀ z : Int, -1048576 ≤ z → z ≤ 1048576 → wrap64 z = z := fun z a b => by unfold wrap64; omega
  rcases hJ with rfl | rfl
  · have e1 : addW li A.2.2.1 = gF (shP 1 li av n) A.1 := h4
    have e2 : addW av A.2.2.1 = gL (shP 1 li av n) A.1 := h5
    rw [e1, e2, wid _ gf.1 gf.2, wid _ gl.1 gl.2]
    exact hn.1 rfl
  · have e1 : addW av A.2.2.1 = gF (shP 2 li av n) A.1 := h4
    have e2 : addW li A.2.2.1 = gL (shP 2 li av n) A.1 := h5
    rw [e1, e2, wid _ gf.1 gf.2, wid _ gl.1 gl.2]
    exact hn.2 rfl
theorem SN_bd {p : QP} {B : Int} {l : List Pk} {t : Nat} {s : QS} (h : QJ p B l t s ws lg) (hl : l.length ≤ 40) : t ≤ 83 := by
  have h1 := h.mu
  have h2 := cntP_le l t
  omega
theorem ShiftNever_bad (W : World) (x : Po) {vp vl ve vk : Value} (H : PoAt W x vp vl ve vk) (hg : ¬ GoodP x) (rs : Bool) (y : Int) (y0 : 0 ≤ y) (y1 : y ≤ 4294967295) (big : Bool) :
    Calls Try.prog 5 #[poV x vp vl ve vk, .bool rs, .int .u32 y, .bool big] W fun e w' => e = .returned (.bool true) ∧ Below W.heap.size W w' := by
  obtain ⟨pp, cp, rfl⟩ := H.p.slice
  obtain ⟨pl, cl, rfl⟩ := H.l.slice
  obtain ⟨pk, ck, rfl⟩ := PksAt.slice H.k
  have h0 := (Own.start W).new (poO x (.slice pp x.c.ps.length cp) (.slice pl x.c.ls.length cl) ve (.slice pk x.l.length ck))
  have Hh := Lib.hid (head9_any h0)
  have HG := fun w' (hb : Stp W w') => Lib.hid (pGood_no (H.stp hb) hg)
  unfold poV at HG ⊢
  clear h0 H hg
  go_enter Try.func5, Try.ntmps5
  go_wp2_with fail
  refine Hh.out.mono ?_
  rintro e w1 ⟨rfl, hO⟩
  obtain ⟨d0, d1, d2, d3, d4, d5, d6, d7, d8, d9, d10, d11, d12, d13⟩ := poCells hO
  go_wp2_with fail
  refine (HG _ hO.toBelow).out.mono ?_
  rintro e w2 ⟨rfl, hB⟩
  have hO := hO.below hB
  clear hB HG Hh d0 d1 d2 d3 d4 d5 d6 d7 d8 d9 d10 d11 d12 d13
  have HB := Lib.hid hO.toBelow
  clear hO
  go_wp2_with fail
  go_ret
  exact ⟨rfl, HB.out⟩
set_option maxHeartbeats 20000000 in
theorem ShiftNever_main (W : World) (x : Po) {vp vl ve vk : Value} (H : PoAt W x vp vl ve vk) (hg : GoodP x) (rs : Bool) (y : Int) (y0 : 0 ≤ y) (y1 : y ≤ 4294967295) (big : Bool) :
    Calls Try.prog 5 #[poV x vp vl ve vk, .bool rs, .int .u32 y, .bool big] W fun e w' => e = .returned (.bool true) ∧ Below W.heap.size W w' := by
  obtain ⟨pp, cp, rfl⟩ := H.p.slice
  obtain ⟨pl, cl, rfl⟩ := H.l.slice
  obtain ⟨pk, ck, rfl⟩ := PksAt.slice H.k
  have h0 := (Own.start W).new (poO x (.slice pp x.c.ps.length cp) (.slice pl x.c.ls.length cl) ve (.slice pk x.l.length ck))
  have Hh := Lib.hid (head9_any h0)
  have hr := hg.rt
  have HG := fun w' (hb : Stp W w') => Lib.hid (pGood_yes (H.stp hb) hg)
  have HOf := fun w' (hb : Stp W w') => Lib.hid (pOf_any (H.stp hb) hr)
  have HWd := fun w L (h : Own W NoF L w) => Lib.hid (sWords_any y y0 y1 big H hg h)
  have HPk := fun w L (h : Own W NoF L w) => Lib.hid (sPokes_any H hg h)
  have HQw := Lib.hid (fun what => swW_qw hr H.wf what y y0 y1 big)
  have HPq := Lib.hid (fun what => pkQ_poS (x := x) (what := what) (B := 1099511627776) (by decide))
  have hin := Po.b_in hr
  have hvb := Po.v_bd hr
  have hkb := Po.k_bd (x := x)
  have hn1 := hr.n1
  have hbe := Po.b_eq hr
  have hst := hr.sm
  have Hr := Lib.hid hr
  have hl40 := hg.l
  have HOk := Lib.hid (fun what => shP_ok (what := what) (li := x.b) (av := x.b + 1) (n := x.k) (by omega) hkb.1 hkb.2)
  have HKd := fun u u0 u1 w L (h : Own W NoF L w) => Lib.hid (kind_any (w0 := W) (F0 := NoF) (L := L) (w := w) (pp := pp) (np := x.c.ps.length) (cp := cp) (pl := pl) (nl := x.c.ls.length) (cl := cl) x.c hst x.v x.k hvb.1 (by omega) x.b (x.b + 1) hbe (by rw [hbe]; omega) u u0 u1 h)
  have HLi := fun w => Lib.hid (show Calls Try.prog 26 #[cfV x.c (.slice pp x.c.ps.length cp) (.slice pl x.c.ls.length cl), .int .i64 x.v] w (fun e w' => e = .returned (.int .i64 (x.b : Nat)) ∧ Below w.heap.size w w') by rw [← hbe]; exact Limit_q (pp := pp) (np := x.c.ps.length) (cp := cp) (pl := pl) (nl := x.c.ls.length) (cl := cl) x.c hst x.v hvb.1 (by omega) w)
  have HAv := fun w => Lib.hid (show Calls Try.prog 27 #[cfV x.c (.slice pp x.c.ps.length cp) (.slice pl x.c.ls.length cl), .int .i64 x.v] w (fun e w' => e = .returned (.int .i64 ((x.b + 1 : Nat) : Int)) ∧ Below w.heap.size w w') by rw [show ((x.b + 1 : Nat) : Int) = lim x.c x.v + 1 by rw [hbe]; omega]; exact Avail_q (pp := pp) (np := x.c.ps.length) (cp := cp) (pl := pl) (nl := x.c.ls.length) (cl := cl) x.c hst x.v hvb.1 (by omega) w)
  have HrLi := fun w => Lib.hid (show Calls Try.prog 30 #[cfV x.c (.slice pp x.c.ps.length cp) (.slice pl x.c.ls.length cl), .int .i64 x.v] w (fun e w' => e = .returned (.int .i64 (x.b : Nat)) ∧ Below w.heap.size w w') by rw [← hbe]; exact rLimit_q (pp := pp) (np := x.c.ps.length) (cp := cp) (pl := pl) (nl := x.c.ls.length) (cl := cl) x.c hst x.v hvb.1 (by omega) w)
  have HrAv := fun w => Lib.hid (show Calls Try.prog 31 #[cfV x.c (.slice pp x.c.ps.length cp) (.slice pl x.c.ls.length cl), .int .i64 x.v] w (fun e w' => e = .returned (.int .i64 ((x.b + 1 : Nat) : Int)) ∧ Below w.heap.size w w') by rw [show ((x.b + 1 : Nat) : Int) = lim x.c x.v + 1 by rw [hbe]; omega]; exact rAvail_q (pp := pp) (np := x.c.ps.length) (cp := cp) (pl := pl) (nl := x.c.ls.length) (cl := cl) x.c hst x.v hvb.1 (by omega) w)
  clear hbe
  unfold poV at HG HOf HWd HPk ⊢
  clear h0 H hg hr
  go_enter Try.func5, Try.ntmps5
  go_wp2_with fail
  refine Hh.out.mono ?_
  rintro e w1 ⟨rfl, hO⟩
  obtain ⟨d0, d1, d2, d3, d4, d5, d6, d7, d8, d9, d10, d11, d12, d13⟩ := poCells hO
  go_wp2_with fail
  refine (HG _ hO.toBelow).out.mono ?_
  rintro e w2 ⟨rfl, hB⟩
  have hO := hO.below hB
  clear hB HG Hh d0 d1 d2 d3 d4 d5 d6 d7 d8 d9 d10 d11 d12 d13
  obtain ⟨d0, d1, d2, d3, d4, d5, d6, d7, d8, d9, d10, d11, d12, d13⟩ := poCells hO
  go_wp2_with fail
  refine (HOf _ hO.toBelow).out.mono ?_
  rintro e w3 ⟨rfl, hB⟩
  have hO := hO.below hB
  clear hB HOf d0 d1 d2 d3 d4 d5 d6 d7 d8 d9 d10 d11 d12 d13
  obtain ⟨d0, d1, d2, d3, d4, d5, d6, d7, d8, d9, d10, d11, d12, d13⟩ := poCells hO
  go_wp2_with fail
  refine (HWd _ _ hO).out.mono ?_
  rintro e w4 ⟨vw, rfl, hO⟩
  clear HWd d0 d1 d2 d3 d4 d5 d6 d7 d8 d9 d10 d11 d12 d13
  have hlen0 := swW_len x y big
  obtain ⟨ws, hws⟩ : ∃ ws, ws = swW x y big := ⟨_, rfl⟩
  rw [← hws] at hO HQw hlen0
  rw [← hlen0] at hO
  have hlen : x.b + 2 < ws.length ∧ ws.length ≤ 400 := by omega
  have Hws := Lib.hid hws
  clear hlen0 hws
  have HLd := Lib.hid (pLaid_any (by omega) (by omega) hO)
  clear hO
  go_wp2_with fail
  refine HLd.out.mono ?_
  rintro e w5 ⟨m, rfl, hO⟩
  clear HLd
  have hO := hO.under fun _ _ h => h.drop
  obtain ⟨d0, d1, d2, d3, d4, d5, d6, d7, d8, d9, d10, d11, d12, d13⟩ := poCells hO.swap
  have HN1 := HKd 1 (by decide) (by decide) _ _ hO
  have HN2 := HKd 2 (by decide) (by decide) _ _ hO
  rw [show ((1 : Int) % 3).toNat = 1 from rfl] at HN1
  rw [show ((2 : Int) % 3).toNat = 2 from rfl] at HN2
  clear hO HKd HrLi HrAv
  cases rs with
  | false =>
    go_wp2_with fail
    refine HN2.out.mono ?_
    rintro e w6 ⟨g, rfl, hO⟩
    clear HN1 HN2 d0 d1 d2 d3 d4 d5 d6 d7 d8 d9 d10 d11 d12 d13
    obtain ⟨d0, d1, d2, d3, d4, d5, d6, d7, d8, d9, d10, d11, d12, d13⟩ := poCells hO.p2
    have HP := HPk _ _ hO
    clear hO
    go_wp2_with fail
    refine HP.out.mono ?_
    rintro e w7 ⟨vp, rfl, hO⟩
    obtain ⟨pr3, cr3, rfl⟩ := row_slice hO
    have hRl : (poS x).length ≤ 40 := by rw [poS_len]; omega
    have HJ0 := Lib.hid (QJ.start (HOk.out 2) (HQw.out 2) (by decide) (poS x))
    have HSN := Lib.hid (fun t s ws lg (h : QJ (shP 2 x.b (x.b + 1) x.k) 1099511627776 (poS x) t s ws lg) => SN_step (J := 2) (by decide) (by omega) hkb.1 hkb.2 (HPq.out 2) h)
    have HSt := Lib.hid (sh_steps (w0 := W) (F0 := NoF) 2 g m x.v 94 x.b (x.b + 1) x.k (1099511627776 + 2097152) (by decide))
    have HOK := Lib.hid (fun (t : Nat) s ws lg (h : QJ (shP 2 x.b (x.b + 1) x.k) 1099511627776 (poS x) t s ws lg) => (show (shP 2 x.b (x.b + 1) x.k).Ok ∧ QW (shP 2 x.b (x.b + 1) x.k) (1099511627776 + 2097152) (pokesAt t (poS x) ws) ∧ QSOk (shP 2 x.b (x.b + 1) x.k) (1099511627776 + 2097152) s from ⟨HOk.out 2, (HPq.out 2 t _ ws (by have := phiQ_bd s; omega) h.w).wider (by have := phiQ_bd s; omega), h.ok.wider (by have := phiQ_bd s; omega)⟩))
    have hAd := fun wd w v (lg : List Acc) hn hv => Lib.hid (sAdded_any (lg := lg) (w := w) (v := v) wd hn hv)
    have hO : Own W NoF (shA g x.v (shP 2 x.b (x.b + 1) x.k) (s0Q (shP 2 x.b (x.b + 1) x.k).kd) :: memA 94 m ws [] :: row (.slice pr3 (poS x).length cr3) 62 3 (poS x).length (pkC (poS x)) :: [blk W.heap.size (poO x (.slice pp x.c.ps.length cp) (.slice pl x.c.ls.length cl) ve (.slice pk x.l.length ck))]) w7 := hO.swap.under fun _ _ h => h.swap
    clear HP HPk HPq HQw HOk hin
    clear d0 d1 d2 d3 d4 d5 d6 d7 d8 d9 d10 d11 d12 d13
    generalize hbb : x.b = li at *
    generalize hab : li + 1 = av at *
    generalize shP 2 li av x.k = P at *
    generalize poS x = R at *
    have HO := Lib.hid hO
    clear hO hbb hab
    go_wp2_with fail
    go_loopw [17, 18, 19] (fun v17 v18 v19 wr => ∃ (n : Nat) (s1 : QS) (ws : List Int) (lg : List Acc), n ≤ 200 ∧ v17 = .int .i64 n ∧ QJ P 1099511627776 R n s1 ws lg ∧ Own W NoF (shA g x.v P s1 :: memA 94 m ws lg :: row (.slice pr3 R.length cr3) 62 3 R.length (pkC R) :: [blk W.heap.size (poO x (.slice pp x.c.ps.length cp) (.slice pl x.c.ls.length cl) ve (.slice pk x.l.length ck))]) wr) (fun v17 v18 v19 _ => 200 - (intOf v17).toNat)
    case atStart => exact ⟨0, _, ws, [], by decide, rfl, HJ0.out, HO.out⟩
    case round =>
      obtain ⟨n, s1, ws, lg, hn, rfl, hI, hO⟩ := hrel
      have HO2 := Lib.hid hO
      have hn83 := SN_bd hI hRl
      have HI := Lib.hid hI
      clear HO HJ0 hO hI hlen
      have f60 : decide ((n : Int) < 200) = true := by simp; omega
      go_wp2_with fail
      go_loopw [18] (fun v18 wr => ∃ k : Nat, k ≤ R.length ∧ v18 = .int .i64 k ∧ Own W NoF (memA 94 m (pokesAt n (R.take k) ws) lg :: shA g x.v P s1 :: row (.slice pr3 R.length cr3) 62 3 R.length (pkC R) :: [blk W.heap.size (poO x (.slice pp x.c.ps.length cp) (.slice pl x.c.ls.length cl) ve (.slice pk x.l.length ck))]) wr) (fun v18 _ => R.length - (intOf v18).toNat)
      case atStart => exact ⟨0, Nat.zero_le _, rfl, HO2.out.swap⟩
      case round =>
        obtain ⟨k, hk, rfl, hO⟩ := hrel
        clear HO2
        by_cases hkl : k < R.length
        · obtain ⟨b3, o3, e3, hb3, hc3⟩ := hO.p2.pksAt.at (by rw [pkC_len]; omega) (by omega)
          have Hnx := Lib.hid (pokes_take (t := (n : Int)) hkl ws)
          obtain ⟨z, hz⟩ : ∃ z, z = R.getD k default := ⟨_, rfl⟩
          have e := fun j hj => pkC_get R k j hkl hj
          rw [← hz] at e Hnx
          have x0 : wr.cell? ⟨b3, o3 + k * 3, none⟩ = some (.int .i64 z.at_) := hc3 (k * 3 + 0) _ (e 0 (by omega))
          have x1 : wr.cell? ⟨b3, o3 + k * 3 + 1, none⟩ = some (.int .i64 z.w) := hc3 (k * 3 + 1) _ (e 1 (by omega))
          have x2 : wr.cell? ⟨b3, o3 + k * 3 + 2, none⟩ = some (.int .i64 z.x) := hc3 (k * 3 + 2) _ (e 2 (by omega))
          clear hc3 e hz
          subst e3
          have HO := Lib.hid hO
          clear hO
          generalize pokesAt n (R.take k) ws = wk at HO Hnx
          by_cases hat : z.at_ = n
          · have hF : (z.at_ == (n : Int)) = true := by rw [beq_iff_eq]; exact hat
            have hnx := Hnx.out
            rw [if_pos hat] at hnx
            have Hnx2 := Lib.hid hnx
            have HPw := Lib.hid (fun w h => PokeW_any (w0 := W) (F0 := NoF) (L := shA g x.v P s1 :: row (.slice (some ⟨b3, o3, none⟩) R.length cr3) 62 3 R.length (pkC R) :: [blk W.heap.size (poO x (.slice pp x.c.ps.length cp) (.slice pl x.c.ls.length cl) ve (.slice pk x.l.length ck))]) (T := 94) (m := m) (ws := wk) (l := lg) (w := w) z h)
            clear hat hnx Hnx
            go_wp2_with fail
            refine wp_region_still_tail 11 (by kernel_rfl) (by kernel_rfl) ?_
            simp only [List.take_succ_cons, List.take_zero, List.drop_succ_cons, List.drop_zero]
            change wpStill _ _ wr.drew _ _ _
            iterate 11 still_step
            refine wpStill_nil ?_
            change wpList _ _ _ _ _ wr.drew
            go_wp2_with fail
            refine (HPw.out _ HO.out.drew).mono ?_
            rintro e w9 ⟨rfl, hO⟩
            rw [← Hnx2.out] at hO
            have HO3 := Lib.hid hO
            clear hO x0 x1 x2 HPw HO
            go_wp2_with fail
            go_roundw
            case rel => exact ⟨k + 1, by omega, by go_num, HO3.out⟩
            case measure => simp [intOf]; omega
          · have hF : (z.at_ == (n : Int)) = false := beq_fN hat
            have hnx := Hnx.out
            rw [if_neg hat] at hnx
            have Hnx2 := Lib.hid hnx
            clear hat hnx Hnx
            go_wp2_with fail
            go_roundw
            case rel => exact ⟨k + 1, by omega, by go_num, by rw [Hnx2.out]; exact HO.out⟩
            case measure => simp [intOf]; omega
        · obtain rfl : k = R.length := by omega
          rw [List.take_length] at hO
          obtain ⟨q2, qle, q3⟩ := HSN.out n s1 ws lg HI.out
          obtain ⟨o1, o2, o3⟩ := HOK.out n s1 ws lg HI.out
          have hlgn := HI.out.len
          generalize pokesAt n R ws = wk at *
          have hST := HSt.out _ s1 wk lg wr ⟨o1, o2, o3, by rw [hlgn]; omega⟩ hO.swap
          simp only [shM] at hST
          generalize (stepQ P s1 wk lg).1 = s2 at *
          generalize (stepQ P s1 wk lg).2.1 = wz at *
          generalize (stepQ P s1 wk lg).2.2.1 = lz at *
          generalize (stepQ P s1 wk lg).2.2.2 = fl at *
          have HST := Lib.hid hST
          have Hl3 := Lib.hid q2
          have HQ3 := Lib.hid q3
          obtain ⟨qa, hqa⟩ : ∃ qa, qa = wrap64 (addW av lz) := ⟨_, rfl⟩
          obtain ⟨qb, hqb⟩ : ∃ qb, qb = wrap64 (addW li lz) := ⟨_, rfl⟩
          rw [← hqa, ← hqb] at qle
          have hA1 := fun w v (hv : LogAt w v lz) => hAd av w v lz (by rw [Hl3.out]; omega) hv
          have hA2 := fun w v (hv : LogAt w v lz) => hAd li w v lz (by rw [Hl3.out]; omega) hv
          rw [← hqa] at hA1
          rw [← hqb] at hA2
          clear hST q2 q3 HI hO hkl hk hqa hqb o1 o2 o3 hlgn
          go_wp2_with fail
          refine HST.out.mono ?_
          rintro e w9 ⟨rfl, hO⟩
          have hO : Own W NoF (memA 94 m wz lz :: shA g x.v P s2 :: row (.slice pr3 R.length cr3) 62 3 R.length (pkC R) :: [blk W.heap.size (poO x (.slice pp x.c.ps.length cp) (.slice pl x.c.ls.length cl) ve (.slice pk x.l.length ck))]) w9 := hO.swap
          obtain ⟨d0, d1, d2, d3, d4, d5, d6, d7, d8, d9, d10, d11, d12, d13⟩ := poCells hO.p3
          have f1 : decide (qb < qa) = false := by simp; omega
          have k4 : (((n + 1 : Nat) : Int) != (n : Int) + 1) = false := by simp
          have e4 : IntKind.i64.wrap ((n : Int) + 1) = (n : Int) + 1 := IntWalk.i64_in _ (by omega)
          have HO := Lib.hid hO.drew
          clear hO HST d8 d9 d10 d11 d12 d13
          go_wp2_with fail
          try dsimp only [List.append]
          go_region_held3 (fun w' => w'.cell? ⟨W.heap.size, 0, none⟩ = some (.int .i64 x.c.th) ∧ w'.cell? ⟨W.heap.size, 1, none⟩ = some (.int .i64 x.c.st) ∧ w'.cell? ⟨W.heap.size, 2, none⟩ = some (.int .i64 x.c.ga) ∧ w'.cell? ⟨W.heap.size, 3, none⟩ = some (.int .i64 x.c.le) ∧ w'.cell? ⟨W.heap.size, 4, none⟩ = some (.int .i64 x.c.re) ∧ w'.cell? ⟨W.heap.size, 5, none⟩ = some (.int .i64 x.c.ti) ∧ w'.cell? ⟨W.heap.size, 6, none⟩ = some (.slice pp x.c.ps.length cp) ∧ w'.cell? ⟨W.heap.size, 7, none⟩ = some (.slice pl x.c.ls.length cl)) (go_keep)
            (first
              | (go_at_call 22; refine (Log_b (by rw [Hl3.out]; omega) HO.out).mono ?_; rintro e w12 ⟨v12, rfl, hA⟩; obtain ⟨p12, c12, rfl⟩ := row_slice hA; rw [Hl3.out]; have HV := Lib.hid hA; have hB := hA.toBelow; clear hA; have HO := Lib.hid (HO.out.below hB); have d0 := Stp.cell hB d0; have d1 := Stp.cell hB d1; have d2 := Stp.cell hB d2; have d3 := Stp.cell hB d3; have d4 := Stp.cell hB d4; have d5 := Stp.cell hB d5; have d6 := Stp.cell hB d6; have d7 := Stp.cell hB d7; clear hB)
              | (go_at_call 27; refine (HAv _).out.mono ?_; rintro e w13 ⟨rfl, hB⟩; have HO := Lib.hid (HO.out.below hB); have HV := Lib.hid (HV.out.below hB); have d0 := Stp.cell hB d0; have d1 := Stp.cell hB d1; have d2 := Stp.cell hB d2; have d3 := Stp.cell hB d3; have d4 := Stp.cell hB d4; have d5 := Stp.cell hB d5; have d6 := Stp.cell hB d6; have d7 := Stp.cell hB d7; clear hB)
              | (go_at_call 26; refine (HLi _).out.mono ?_; rintro e w14 ⟨rfl, hB⟩; have HO := Lib.hid (HO.out.below hB); have HV := Lib.hid (HV.out.below hB); have d0 := Stp.cell hB d0; have d1 := Stp.cell hB d1; have d2 := Stp.cell hB d2; have d3 := Stp.cell hB d3; have d4 := Stp.cell hB d4; have d5 := Stp.cell hB d5; have d6 := Stp.cell hB d6; have d7 := Stp.cell hB d7; clear hB)
              | (go_at_call 25; rw [← Hl3.out]; (first | (with_reducible refine Calls.mono (Hid.out (hA1 _ _ (Own.logAt HV.out))) ?_) | (with_reducible refine Calls.mono (Hid.out (hA2 _ _ (Own.logAt HV.out))) ?_)); rintro e w15 ⟨rfl, hD⟩; have hB := hD.below; clear hD; have HO := Lib.hid (HO.out.below hB); have d0 := Stp.cell hB d0; have d1 := Stp.cell hB d1; have d2 := Stp.cell hB d2; have d3 := Stp.cell hB d3; have d4 := Stp.cell hB d4; have d5 := Stp.cell hB d5; have d6 := Stp.cell hB d6; have d7 := Stp.cell hB d7; clear hB))
          all_goals
            cases fl with
            | true =>
              go_wp2_with fail
              go_ret
              exact ⟨rfl, HO.out.toBelow⟩
            | false =>
              have HQ4 := Lib.hid (HQ3.out rfl)
              clear HQ3 HLi HAv
              go_wp2_with fail
              go_roundw
              case rel => exact ⟨n + 1, s2, wz, lz, by omega, by go_num, HQ4.out, HO.out.swap⟩
              case measure => simp [intOf]; omega
  | true =>
    go_wp2_with fail
    refine HN1.out.mono ?_
    rintro e w6 ⟨g, rfl, hO⟩
    clear HN1 HN2 d0 d1 d2 d3 d4 d5 d6 d7 d8 d9 d10 d11 d12 d13
    obtain ⟨d0, d1, d2, d3, d4, d5, d6, d7, d8, d9, d10, d11, d12, d13⟩ := poCells hO.p2
    have HP := HPk _ _ hO
    clear hO
    go_wp2_with fail
    refine HP.out.mono ?_
    rintro e w7 ⟨vp, rfl, hO⟩
    obtain ⟨pr3, cr3, rfl⟩ := row_slice hO
    have hRl : (poS x).length ≤ 40 := by rw [poS_len]; omega
    have HJ0 := Lib.hid (QJ.start (HOk.out 1) (HQw.out 1) (by decide) (poS x))
    have HSN := Lib.hid (fun t s ws lg (h : QJ (shP 1 x.b (x.b + 1) x.k) 1099511627776 (poS x) t s ws lg) => SN_step (J := 1) (by decide) (by omega) hkb.1 hkb.2 (HPq.out 1) h)
    have HSt := Lib.hid (sh_steps (w0 := W) (F0 := NoF) 1 g m x.v 94 x.b (x.b + 1) x.k (1099511627776 + 2097152) (by decide))
    have HOK := Lib.hid (fun (t : Nat) s ws lg (h : QJ (shP 1 x.b (x.b + 1) x.k) 1099511627776 (poS x) t s ws lg) => (show (shP 1 x.b (x.b + 1) x.k).Ok ∧ QW (shP 1 x.b (x.b + 1) x.k) (1099511627776 + 2097152) (pokesAt t (poS x) ws) ∧ QSOk (shP 1 x.b (x.b + 1) x.k) (1099511627776 + 2097152) s from ⟨HOk.out 1, (HPq.out 1 t _ ws (by have := phiQ_bd s; omega) h.w).wider (by have := phiQ_bd s; omega), h.ok.wider (by have := phiQ_bd s; omega)⟩))
    have hAd := fun wd w v (lg : List Acc) hn hv => Lib.hid (sAdded_any (lg := lg) (w := w) (v := v) wd hn hv)
    have hO : Own W NoF (shA g x.v (shP 1 x.b (x.b + 1) x.k) (s0Q (shP 1 x.b (x.b + 1) x.k).kd) :: memA 94 m ws [] :: row (.slice pr3 (poS x).length cr3) 62 3 (poS x).length (pkC (poS x)) :: [blk W.heap.size (poO x (.slice pp x.c.ps.length cp) (.slice pl x.c.ls.length cl) ve (.slice pk x.l.length ck))]) w7 := hO.swap.under fun _ _ h => h.swap
    clear HP HPk HPq HQw HOk hin
    clear d0 d1 d2 d3 d4 d5 d6 d7 d8 d9 d10 d11 d12 d13
    generalize hbb : x.b = li at *
    generalize hab : li + 1 = av at *
    generalize shP 1 li av x.k = P at *
    generalize poS x = R at *
    have HO := Lib.hid hO
    clear hO hbb hab
    go_wp2_with fail
    go_loopw [17, 18, 19] (fun v17 v18 v19 wr => ∃ (n : Nat) (s1 : QS) (ws : List Int) (lg : List Acc), n ≤ 200 ∧ v17 = .int .i64 n ∧ QJ P 1099511627776 R n s1 ws lg ∧ Own W NoF (shA g x.v P s1 :: memA 94 m ws lg :: row (.slice pr3 R.length cr3) 62 3 R.length (pkC R) :: [blk W.heap.size (poO x (.slice pp x.c.ps.length cp) (.slice pl x.c.ls.length cl) ve (.slice pk x.l.length ck))]) wr) (fun v17 v18 v19 _ => 200 - (intOf v17).toNat)
    case atStart => exact ⟨0, _, ws, [], by decide, rfl, HJ0.out, HO.out⟩
    case round =>
      obtain ⟨n, s1, ws, lg, hn, rfl, hI, hO⟩ := hrel
      have HO2 := Lib.hid hO
      have hn83 := SN_bd hI hRl
      have HI := Lib.hid hI
      clear HO HJ0 hO hI hlen
      have f60 : decide ((n : Int) < 200) = true := by simp; omega
      go_wp2_with fail
      go_loopw [18] (fun v18 wr => ∃ k : Nat, k ≤ R.length ∧ v18 = .int .i64 k ∧ Own W NoF (memA 94 m (pokesAt n (R.take k) ws) lg :: shA g x.v P s1 :: row (.slice pr3 R.length cr3) 62 3 R.length (pkC R) :: [blk W.heap.size (poO x (.slice pp x.c.ps.length cp) (.slice pl x.c.ls.length cl) ve (.slice pk x.l.length ck))]) wr) (fun v18 _ => R.length - (intOf v18).toNat)
      case atStart => exact ⟨0, Nat.zero_le _, rfl, HO2.out.swap⟩
      case round =>
        obtain ⟨k, hk, rfl, hO⟩ := hrel
        clear HO2
        by_cases hkl : k < R.length
        · obtain ⟨b3, o3, e3, hb3, hc3⟩ := hO.p2.pksAt.at (by rw [pkC_len]; omega) (by omega)
          have Hnx := Lib.hid (pokes_take (t := (n : Int)) hkl ws)
          obtain ⟨z, hz⟩ : ∃ z, z = R.getD k default := ⟨_, rfl⟩
          have e := fun j hj => pkC_get R k j hkl hj
          rw [← hz] at e Hnx
          have x0 : wr.cell? ⟨b3, o3 + k * 3, none⟩ = some (.int .i64 z.at_) := hc3 (k * 3 + 0) _ (e 0 (by omega))
          have x1 : wr.cell? ⟨b3, o3 + k * 3 + 1, none⟩ = some (.int .i64 z.w) := hc3 (k * 3 + 1) _ (e 1 (by omega))
          have x2 : wr.cell? ⟨b3, o3 + k * 3 + 2, none⟩ = some (.int .i64 z.x) := hc3 (k * 3 + 2) _ (e 2 (by omega))
          clear hc3 e hz
          subst e3
          have HO := Lib.hid hO
          clear hO
          generalize pokesAt n (R.take k) ws = wk at HO Hnx
          by_cases hat : z.at_ = n
          · have hF : (z.at_ == (n : Int)) = true := by rw [beq_iff_eq]; exact hat
            have hnx := Hnx.out
            rw [if_pos hat] at hnx
            have Hnx2 := Lib.hid hnx
            have HPw := Lib.hid (fun w h => PokeW_any (w0 := W) (F0 := NoF) (L := shA g x.v P s1 :: row (.slice (some ⟨b3, o3, none⟩) R.length cr3) 62 3 R.length (pkC R) :: [blk W.heap.size (poO x (.slice pp x.c.ps.length cp) (.slice pl x.c.ls.length cl) ve (.slice pk x.l.length ck))]) (T := 94) (m := m) (ws := wk) (l := lg) (w := w) z h)
            clear hat hnx Hnx
            go_wp2_with fail
            refine wp_region_still_tail 11 (by kernel_rfl) (by kernel_rfl) ?_
            simp only [List.take_succ_cons, List.take_zero, List.drop_succ_cons, List.drop_zero]
            change wpStill _ _ wr.drew _ _ _
            iterate 11 still_step
            refine wpStill_nil ?_
            change wpList _ _ _ _ _ wr.drew
            go_wp2_with fail
            refine (HPw.out _ HO.out.drew).mono ?_
            rintro e w9 ⟨rfl, hO⟩
            rw [← Hnx2.out] at hO
            have HO3 := Lib.hid hO
            clear hO x0 x1 x2 HPw HO
            go_wp2_with fail
            go_roundw
            case rel => exact ⟨k + 1, by omega, by go_num, HO3.out⟩
            case measure => simp [intOf]; omega
          · have hF : (z.at_ == (n : Int)) = false := beq_fN hat
            have hnx := Hnx.out
            rw [if_neg hat] at hnx
            have Hnx2 := Lib.hid hnx
            clear hat hnx Hnx
            go_wp2_with fail
            go_roundw
            case rel => exact ⟨k + 1, by omega, by go_num, by rw [Hnx2.out]; exact HO.out⟩
            case measure => simp [intOf]; omega
        · obtain rfl : k = R.length := by omega
          rw [List.take_length] at hO
          obtain ⟨q2, qle, q3⟩ := HSN.out n s1 ws lg HI.out
          obtain ⟨o1, o2, o3⟩ := HOK.out n s1 ws lg HI.out
          have hlgn := HI.out.len
          generalize pokesAt n R ws = wk at *
          have hST := HSt.out _ s1 wk lg wr ⟨o1, o2, o3, by rw [hlgn]; omega⟩ hO.swap
          simp only [shM] at hST
          generalize (stepQ P s1 wk lg).1 = s2 at *
          generalize (stepQ P s1 wk lg).2.1 = wz at *
          generalize (stepQ P s1 wk lg).2.2.1 = lz at *
          generalize (stepQ P s1 wk lg).2.2.2 = fl at *
          have HST := Lib.hid hST
          have Hl3 := Lib.hid q2
          have HQ3 := Lib.hid q3
          obtain ⟨qa, hqa⟩ : ∃ qa, qa = wrap64 (addW av lz) := ⟨_, rfl⟩
          obtain ⟨qb, hqb⟩ : ∃ qb, qb = wrap64 (addW li lz) := ⟨_, rfl⟩
          rw [← hqa, ← hqb] at qle
          have hA1 := fun w v (hv : LogAt w v lz) => hAd av w v lz (by rw [Hl3.out]; omega) hv
          have hA2 := fun w v (hv : LogAt w v lz) => hAd li w v lz (by rw [Hl3.out]; omega) hv
          rw [← hqa] at hA1
          rw [← hqb] at hA2
          clear hST q2 q3 HI hO hkl hk hqa hqb o1 o2 o3 hlgn
          go_wp2_with fail
          refine HST.out.mono ?_
          rintro e w9 ⟨rfl, hO⟩
          have hO : Own W NoF (memA 94 m wz lz :: shA g x.v P s2 :: row (.slice pr3 R.length cr3) 62 3 R.length (pkC R) :: [blk W.heap.size (poO x (.slice pp x.c.ps.length cp) (.slice pl x.c.ls.length cl) ve (.slice pk x.l.length ck))]) w9 := hO.swap
          obtain ⟨d0, d1, d2, d3, d4, d5, d6, d7, d8, d9, d10, d11, d12, d13⟩ := poCells hO.p3
          have f1 : decide (qb < qa) = false := by simp; omega
          have k4 : (((n + 1 : Nat) : Int) != (n : Int) + 1) = false := by simp
          have e4 : IntKind.i64.wrap ((n : Int) + 1) = (n : Int) + 1 := IntWalk.i64_in _ (by omega)
          have HO := Lib.hid hO.drew
          clear hO HST d8 d9 d10 d11 d12 d13
          go_wp2_with fail
          try dsimp only [List.append]
          go_region_held3 (fun w' => w'.cell? ⟨W.heap.size, 0, none⟩ = some (.int .i64 x.c.th) ∧ w'.cell? ⟨W.heap.size, 1, none⟩ = some (.int .i64 x.c.st) ∧ w'.cell? ⟨W.heap.size, 2, none⟩ = some (.int .i64 x.c.ga) ∧ w'.cell? ⟨W.heap.size, 3, none⟩ = some (.int .i64 x.c.le) ∧ w'.cell? ⟨W.heap.size, 4, none⟩ = some (.int .i64 x.c.re) ∧ w'.cell? ⟨W.heap.size, 5, none⟩ = some (.int .i64 x.c.ti) ∧ w'.cell? ⟨W.heap.size, 6, none⟩ = some (.slice pp x.c.ps.length cp) ∧ w'.cell? ⟨W.heap.size, 7, none⟩ = some (.slice pl x.c.ls.length cl)) (go_keep)
            (first
              | (go_at_call 22; refine (Log_b (by rw [Hl3.out]; omega) HO.out).mono ?_; rintro e w12 ⟨v12, rfl, hA⟩; obtain ⟨p12, c12, rfl⟩ := row_slice hA; rw [Hl3.out]; have HV := Lib.hid hA; have hB := hA.toBelow; clear hA; have HO := Lib.hid (HO.out.below hB); have d0 := Stp.cell hB d0; have d1 := Stp.cell hB d1; have d2 := Stp.cell hB d2; have d3 := Stp.cell hB d3; have d4 := Stp.cell hB d4; have d5 := Stp.cell hB d5; have d6 := Stp.cell hB d6; have d7 := Stp.cell hB d7; clear hB)
              | (go_at_call 27; refine (HAv _).out.mono ?_; rintro e w13 ⟨rfl, hB⟩; have HO := Lib.hid (HO.out.below hB); have HV := Lib.hid (HV.out.below hB); have d0 := Stp.cell hB d0; have d1 := Stp.cell hB d1; have d2 := Stp.cell hB d2; have d3 := Stp.cell hB d3; have d4 := Stp.cell hB d4; have d5 := Stp.cell hB d5; have d6 := Stp.cell hB d6; have d7 := Stp.cell hB d7; clear hB)
              | (go_at_call 26; refine (HLi _).out.mono ?_; rintro e w14 ⟨rfl, hB⟩; have HO := Lib.hid (HO.out.below hB); have HV := Lib.hid (HV.out.below hB); have d0 := Stp.cell hB d0; have d1 := Stp.cell hB d1; have d2 := Stp.cell hB d2; have d3 := Stp.cell hB d3; have d4 := Stp.cell hB d4; have d5 := Stp.cell hB d5; have d6 := Stp.cell hB d6; have d7 := Stp.cell hB d7; clear hB)
              | (go_at_call 25; rw [← Hl3.out]; (first | (with_reducible refine Calls.mono (Hid.out (hA1 _ _ (Own.logAt HV.out))) ?_) | (with_reducible refine Calls.mono (Hid.out (hA2 _ _ (Own.logAt HV.out))) ?_)); rintro e w15 ⟨rfl, hD⟩; have hB := hD.below; clear hD; have HO := Lib.hid (HO.out.below hB); have d0 := Stp.cell hB d0; have d1 := Stp.cell hB d1; have d2 := Stp.cell hB d2; have d3 := Stp.cell hB d3; have d4 := Stp.cell hB d4; have d5 := Stp.cell hB d5; have d6 := Stp.cell hB d6; have d7 := Stp.cell hB d7; clear hB))
          all_goals
            cases fl with
            | true =>
              go_wp2_with fail
              go_ret
              exact ⟨rfl, HO.out.toBelow⟩
            | false =>
              have HQ4 := Lib.hid (HQ3.out rfl)
              clear HQ3 HLi HAv
              go_wp2_with fail
              go_roundw
              case rel => exact ⟨n + 1, s2, wz, lz, by omega, by go_num, HQ4.out, HO.out.swap⟩
              case measure => simp [intOf]; omega
theorem ShiftNever_calls (W : World) (x : Po) (vp vl ve vk : Value) (hwd : Wide x.c) (hwf : x.Wf) (hp : IntsAt W .i64 vp x.c.ps) (hl : IntsAt W .i64 vl x.c.ls) (he : IntsAt W .u32 ve x.ls) (hk : PksAt W vk x.l) (rs : Bool) (y : Int) (y0 : IntKind.u32.min ≤ y) (y1 : y ≤ IntKind.u32.max) (big : Bool) :
    Calls Try.prog 5 #[poV x vp vl ve vk, .bool rs, .int .u32 y, .bool big] W fun e w' => e = .returned (.bool true) ∧ Below W.heap.size W w' := by
  by_cases hg : GoodP x
  · exact ShiftNever_main W x ⟨hwd, hwf, hp, hl, he, hk⟩ hg rs y y0 y1 big
  · exact ShiftNever_bad W x ⟨hwd, hwf, hp, hl, he, hk⟩ hg rs y y0 y1 big
end Go.Proofs.Ytlkiadionpnijaa
