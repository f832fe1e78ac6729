/- ShiftBack. Written by tools/gen_shift*.py. -/
import Derived.Test.YtlkiadionpnijaaShiftHead
namespace Go.Proofs.Ytlkiadionpnijaa
open Go.ChangeShapes Go.WideShapes Go.ChangeAt Go.RowKit Go.Shelf
set_option linter.unusedVariables false
set_option linter.unusedSimpArgs false
set_option maxRecDepth 100000
variable {ws : List Int} {w w' : World}
theorem SameInts_no {v u : Value} {zs us : List Int} (hv : IntsAt w .i64 v zs) (hu : IntsAt w .i64 u us) (hn : zs.length ≤ 1000000) (hl : us.length = zs.length) (d : Nat) (hd : d < zs.length) (hne : zs.getD d 0 ≠ us.getD d 0) :
    Calls Try.prog 23 #[v, u] w fun e w' => e = .returned (.bool false) ∧ Drew w w' := by
  obtain ⟨b, off, cap, rfl, hb⟩ := hv.at (by omega)
  obtain ⟨c, off', cap', rfl, hc⟩ := hu.at (by omega)
  clear hv hu
  rw [hl] at hc ⊢
  generalize zs.length = N at *
  have Hb := Lib.hid hb
  have Hc := Lib.hid hc
  have Hne := Lib.hid hne
  clear hb hc hl hne
  go_enter Try.func23, Try.ntmps23
  go_wp2
  go_loopw [5] (fun i wr => ∃ k : Nat, k ≤ d ∧ i = .int .i64 k ∧ Drew w wr) (fun i _ => N - (intOf i).toNat)
  case atStart => exact ⟨0, by omega, rfl, Drew.refl w⟩
  case round =>
    obtain ⟨k, hk, rfl, hq⟩ := hrel
    have hlt : k < N := by omega
    have hbk : wr.cell? ⟨b, off + k, none⟩ = some (.int .i64 (zs.getD k 0)) := hq.cell (Hb.out k hlt)
    have hck : wr.cell? ⟨c, off' + k, none⟩ = some (.int .i64 (us.getD k 0)) := hq.cell (Hc.out k hlt)
    by_cases he : zs.getD k 0 = us.getD k 0
    · have hkd : k + 1 ≤ d := by
        have : k ≠ d := fun h => Hne.out (by rw [← h]; exact he)
        omega
      rw [← he] at hck
      generalize zs.getD k 0 = z at hbk hck
      clear he
      go_wp2
      go_quiet (fail)
      go_wp2
      go_roundw
      case rel => exact ⟨k + 1, hkd, by go_num, hq.more nq⟩
      case measure => simp [intOf]; omega
    · generalize zs.getD k 0 = z at hbk he
      generalize us.getD k 0 = z' at hck he
      have f1 : (z == z') = false := by rw [beq_eq_false_iff_ne]; exact he
      have f2 : (z != z') = true := by simp [he]
      have f3 : decide (z = z') = false := by simp [he]
      go_wp2
      go_quiet (fail)
      go_wp2
      go_ret
      exact ⟨rfl, hq.more nq⟩
theorem sw_bk {x : Po} {y : Int} (hr : x.c.Rt) (y0 : 0 ≤ y) (y1 : y ≤ 4294967295) (hw : x.Wf) (h : ws = swW x y false) : ws.getD x.b 0 + x.k ≤ 1099511627776 ∧ 0 ≤ ws.getD (x.b + 1) 0 := by
  have h8 := poW_ok hr hw
  have hin := Po.b_in hr
  have hlen := h8.len
  have hk := Po.k_bd (x := x)
  have hst := hr.sm
  unfold Sm at hst
  rw [h]
  unfold swW
  refine ⟨?_, ?_⟩
  · rw [getD_set, if_pos ⟨rfl, by omega⟩]; simp only [Bool.false_eq_true, if_false]; omega
  · rw [getD_set, if_neg (by omega)]; exact h8.a0
theorem list_ext9 {a b : List Int} (hl : a.length = b.length) (h : ∀ k, a.getD k 0 = b.getD k 0) : a = b := by
  apply List.ext_getElem hl
  intro i h1 h2
  have := h i
  simpa [List.getD, h1, h2] using this
theorem SBk_play {g g2 : Nat} {nd : Int} {li av : Nat} {n : Int} (hne : li ≠ av) (n0 : 1 ≤ n) (n1 : n ≤ 1048576) (hw : ∀ what, QW (shP what li av n) 1099511627776 ws) (hl : ws.getD li 0 + n ≤ 1099511627776) (ha : 0 ≤ ws.getD av 0) :
    ∃ s1 lg1 s2 lg2 wb, playF (shM g nd (shP 1 li av n) (1099511627776 + 2097152)) [] 9 0 (s0Q (shP 1 li av n).kd) ws [] = (3, true, s1, wb, lg1) ∧
      playF (shM g2 nd (shP 2 li av n) (2199023255552 + 2097152)) [] 9 0 (s0Q (shP 2 li av n).kd) wb lg1 = (3, true, s2, ws, lg2) ∧ wb.length = ws.length ∧ wb.getD li 0 ≠ ws.getD li 0 ∧ QW (shP 2 li av n) 2199023255552 wb ∧ lg1.length = 3 := by
  have hp1 := shP_ok (what := 1) hne n0 n1
  have hp2 := shP_ok (what := 2) hne n0 n1
  have hw1 := hw 1
  have q0 : li < ws.length := hw1.fi
  have q1 : av < ws.length := hw1.la
  have f0 : -1099511627776 ≤ ws.getD li 0 := hw1.f0
  have l1 : ws.getD av 0 ≤ 1099511627776 := hw1.l1
  have hlen3 : ∀ M : Mach QS, M.step = stepQ (shP 1 li av n) → (playF M [] 9 0 (s0Q (shP 1 li av n).kd) ws []).2.2.2.2.length = (playF M [] 9 0 (s0Q (shP 1 li av n).kd) ws []).1 := fun M hM => by
    obtain ⟨k, s', ws', lg', e, hE⟩ := shift_any (M := M) hM hp1 (B := 1099511627776) (by decide) (by decide) (l := []) (fun _ _ _ _ h => h) 9 0 _ ws [] (QJ.start hp1 hw1 (by decide) []) (by decide)
    rw [e]; exact hE.len
  obtain ⟨lg1, e1⟩ := shift_alone (M := shM g nd (shP 1 li av n) (1099511627776 + 2097152)) rfl hp1 (by decide) hw1 9 (by decide) []
  have hq1 : noQ (shP 1 li av n) (ws.getD (shP 1 li av n).fi 0) = decide (1099511627776 < ws.getD li 0 + n) := by simp [noQ, shP]
  rw [if_neg (by simp [shP]), hq1, decide_eq_false (by omega), if_neg (by decide)] at e1
  have hln := hlen3 (shM g nd (shP 1 li av n) (1099511627776 + 2097152)) rfl
  rw [e1] at hln
  have e1' : playF (shM g nd (shP 1 li av n) (1099511627776 + 2097152)) [] 9 0 (s0Q (shP 1 li av n).kd) ws [] = (3, true, ⟨9, ws.getD li 0, false⟩, (ws.set li (ws.getD li 0 + n)).set av (ws.getD av 0 + n), lg1) := e1
  have gl : ((ws.set li (ws.getD li 0 + n)).set av (ws.getD av 0 + n)).getD li 0 = ws.getD li 0 + n := by rw [getD_set, if_neg (by omega), getD_set, if_pos ⟨rfl, q0⟩]
  have ga : ((ws.set li (ws.getD li 0 + n)).set av (ws.getD av 0 + n)).getD av 0 = ws.getD av 0 + n := by rw [getD_set, if_pos ⟨rfl, by rw [List.length_set]; exact q1⟩]
  have hW : QW (shP 2 li av n) 2199023255552 ((ws.set li (ws.getD li 0 + n)).set av (ws.getD av 0 + n)) := by
    have h2 := (hw 2).wider (show (1099511627776 : Int) ≤ 2199023255552 by decide)
    exact (h2.set9 _ _ (by unfold I64; omega) (by omega) (by omega)).set9 _ _ (by unfold I64; omega) (by omega) (by omega)
  have hlw : ((ws.set li (ws.getD li 0 + n)).set av (ws.getD av 0 + n)).length = ws.length := by simp
  have hback : (((ws.set li (ws.getD li 0 + n)).set av (ws.getD av 0 + n)).set av (ws.getD av 0)).set li (ws.getD li 0) = ws := by
    refine list_ext9 (by simp) fun k => ?_
    rw [getD_set]; split
    · rename_i h; rw [← h.1]
    · rename_i h
      rw [getD_set]; split
      · rename_i h2; rw [← h2.1]
      · rename_i h2
        rw [getD_set, if_neg (fun h3 => h2 ⟨h3.1, by rw [hlw]; exact q1⟩), getD_set, if_neg (fun h3 => h ⟨h3.1, by rw [List.length_set, hlw]; exact q0⟩)]
  generalize (ws.set li (ws.getD li 0 + n)).set av (ws.getD av 0 + n) = wb at *
  obtain ⟨lg2, e2⟩ := shift_alone (M := shM g2 nd (shP 2 li av n) (2199023255552 + 2097152)) rfl hp2 (by decide) hW 9 (by decide) lg1
  have hq2 : noQ (shP 2 li av n) (wb.getD (shP 2 li av n).fi 0) = decide (wb.getD av 0 < n) := by simp [noQ, shP]
  rw [if_neg (by simp [shP]), hq2, decide_eq_false (by omega), if_neg (by decide)] at e2
  have e2' : playF (shM g2 nd (shP 2 li av n) (2199023255552 + 2097152)) [] 9 0 (s0Q (shP 2 li av n).kd) wb lg1 = (3, true, ⟨9, wb.getD av 0, false⟩, (wb.set av (wb.getD av 0 + -n)).set li (wb.getD li 0 + -n), lg2) := e2
  rw [ga, gl, show ws.getD av 0 + n + -n = ws.getD av 0 by omega, show ws.getD li 0 + n + -n = ws.getD li 0 by omega, hback] at e2'
  exact ⟨_, lg1, _, lg2, wb, e1', e2', hlw, by rw [gl]; omega, hW, hln⟩
theorem ShiftBack_bad (W : World) (x : Po) {vp vl ve vk : Value} (H : PoAt W x vp vl ve vk) (hg : ¬ GoodP x) (y : Int) (y0 : 0 ≤ y) (y1 : y ≤ 4294967295) :
    Calls Try.prog 7 #[poV x vp vl ve vk, .int .u32 y] W fun e w' => e = .returned (.bool true) ∧ Below W.heap.size W w' := by
  obtain ⟨pp, cp, rfl⟩ := H.p.slice
  obtain ⟨pl, cl, rfl⟩ := H.l.slice
  obtain ⟨pk, ck, rfl⟩ := PksAt.slice H.k
  have h0 := (Own.start W).new (poO x (.slice pp x.c.ps.length cp) (.slice pl x.c.ls.length cl) ve (.slice pk x.l.length ck))
  have Hh := Lib.hid (head9_any h0)
  have HG := fun w' (hb : Stp W w') => Lib.hid (pGood_no (H.stp hb) hg)
  unfold poV at HG ⊢
  clear h0 H hg
  go_enter Try.func7, Try.ntmps7
  go_wp2_with fail
  refine Hh.out.mono ?_
  rintro e w1 ⟨rfl, hO⟩
  obtain ⟨d0, d1, d2, d3, d4, d5, d6, d7, d8, d9, d10, d11, d12, d13⟩ := poCells hO
  go_wp2_with fail
  refine (HG _ hO.toBelow).out.mono ?_
  rintro e w2 ⟨rfl, hB⟩
  have hO := hO.below hB
  clear hB HG Hh d0 d1 d2 d3 d4 d5 d6 d7 d8 d9 d10 d11 d12 d13
  have HB := Lib.hid hO.toBelow
  clear hO
  go_wp2_with fail
  go_ret
  exact ⟨rfl, HB.out⟩
set_option maxHeartbeats 20000000 in
theorem ShiftBack_main (W : World) (x : Po) {vp vl ve vk : Value} (H : PoAt W x vp vl ve vk) (hg : GoodP x) (y : Int) (y0 : 0 ≤ y) (y1 : y ≤ 4294967295) :
    Calls Try.prog 7 #[poV x vp vl ve vk, .int .u32 y] W fun e w' => e = .returned (.bool true) ∧ Below W.heap.size W w' := by
  obtain ⟨pp, cp, rfl⟩ := H.p.slice
  obtain ⟨pl, cl, rfl⟩ := H.l.slice
  obtain ⟨pk, ck, rfl⟩ := PksAt.slice H.k
  have h0 := (Own.start W).new (poO x (.slice pp x.c.ps.length cp) (.slice pl x.c.ls.length cl) ve (.slice pk x.l.length ck))
  have Hh := Lib.hid (head9_any h0)
  have hr := hg.rt
  have HG := fun w' (hb : Stp W w') => Lib.hid (pGood_yes (H.stp hb) hg)
  have HOf := fun w' (hb : Stp W w') => Lib.hid (pOf_any (H.stp hb) hr)
  have HWd := fun w L (h : Own W NoF L w) => Lib.hid (sWords_any y y0 y1 false H hg h)
  have HPk := fun w L (h : Own W NoF L w) => Lib.hid (sPokes_any H hg h)
  have HWf := Lib.hid H.wf
  have HQw := Lib.hid (fun what => swW_qw hr H.wf what y y0 y1 false)
  have HPq := Lib.hid (fun what => pkQ_poS (x := x) (what := what) (B := 1099511627776) (by decide))
  have hin := Po.b_in hr
  have hvb := Po.v_bd hr
  have hkb := Po.k_bd (x := x)
  have hn1 := hr.n1
  have hbe := Po.b_eq hr
  have hst := hr.sm
  have Hr := Lib.hid hr
  have hl40 := hg.l
  have HOk := Lib.hid (fun what => shP_ok (what := what) (li := x.b) (av := x.b + 1) (n := x.k) (by omega) hkb.1 hkb.2)
  have HKd := fun u u0 u1 w L (h : Own W NoF L w) => Lib.hid (kind_any (w0 := W) (F0 := NoF) (L := L) (w := w) (pp := pp) (np := x.c.ps.length) (cp := cp) (pl := pl) (nl := x.c.ls.length) (cl := cl) x.c hst x.v x.k hvb.1 (by omega) x.b (x.b + 1) hbe (by rw [hbe]; omega) u u0 u1 h)
  have HLi := fun w => Lib.hid (show Calls Try.prog 26 #[cfV x.c (.slice pp x.c.ps.length cp) (.slice pl x.c.ls.length cl), .int .i64 x.v] w (fun e w' => e = .returned (.int .i64 (x.b : Nat)) ∧ Below w.heap.size w w') by rw [← hbe]; exact Limit_q (pp := pp) (np := x.c.ps.length) (cp := cp) (pl := pl) (nl := x.c.ls.length) (cl := cl) x.c hst x.v hvb.1 (by omega) w)
  have HAv := fun w => Lib.hid (show Calls Try.prog 27 #[cfV x.c (.slice pp x.c.ps.length cp) (.slice pl x.c.ls.length cl), .int .i64 x.v] w (fun e w' => e = .returned (.int .i64 ((x.b + 1 : Nat) : Int)) ∧ Below w.heap.size w w') by rw [show ((x.b + 1 : Nat) : Int) = lim x.c x.v + 1 by rw [hbe]; omega]; exact Avail_q (pp := pp) (np := x.c.ps.length) (cp := cp) (pl := pl) (nl := x.c.ls.length) (cl := cl) x.c hst x.v hvb.1 (by omega) w)
  have HrLi := fun w => Lib.hid (show Calls Try.prog 30 #[cfV x.c (.slice pp x.c.ps.length cp) (.slice pl x.c.ls.length cl), .int .i64 x.v] w (fun e w' => e = .returned (.int .i64 (x.b : Nat)) ∧ Below w.heap.size w w') by rw [← hbe]; exact rLimit_q (pp := pp) (np := x.c.ps.length) (cp := cp) (pl := pl) (nl := x.c.ls.length) (cl := cl) x.c hst x.v hvb.1 (by omega) w)
  have HrAv := fun w => Lib.hid (show Calls Try.prog 31 #[cfV x.c (.slice pp x.c.ps.length cp) (.slice pl x.c.ls.length cl), .int .i64 x.v] w (fun e w' => e = .returned (.int .i64 ((x.b + 1 : Nat) : Int)) ∧ Below w.heap.size w w') by rw [show ((x.b + 1 : Nat) : Int) = lim x.c x.v + 1 by rw [hbe]; omega]; exact rAvail_q (pp := pp) (np := x.c.ps.length) (cp := cp) (pl := pl) (nl := x.c.ls.length) (cl := cl) x.c hst x.v hvb.1 (by omega) w)
  clear hbe
  unfold poV at HG HOf HWd HPk ⊢
  clear h0 H hg hr
  go_enter Try.func7, Try.ntmps7
  go_wp2_with fail
  refine Hh.out.mono ?_
  rintro e w1 ⟨rfl, hO⟩
  obtain ⟨d0, d1, d2, d3, d4, d5, d6, d7, d8, d9, d10, d11, d12, d13⟩ := poCells hO
  go_wp2_with fail
  refine (HG _ hO.toBelow).out.mono ?_
  rintro e w2 ⟨rfl, hB⟩
  have hO := hO.below hB
  clear hB HG Hh d0 d1 d2 d3 d4 d5 d6 d7 d8 d9 d10 d11 d12 d13
  obtain ⟨d0, d1, d2, d3, d4, d5, d6, d7, d8, d9, d10, d11, d12, d13⟩ := poCells hO
  go_wp2_with fail
  refine (HOf _ hO.toBelow).out.mono ?_
  rintro e w3 ⟨rfl, hB⟩
  have hO := hO.below hB
  clear hB HOf d0 d1 d2 d3 d4 d5 d6 d7 d8 d9 d10 d11 d12 d13
  obtain ⟨d0, d1, d2, d3, d4, d5, d6, d7, d8, d9, d10, d11, d12, d13⟩ := poCells hO
  go_wp2_with fail
  refine (HWd _ _ hO).out.mono ?_
  rintro e w4 ⟨vw, rfl, hO⟩
  clear HWd d0 d1 d2 d3 d4 d5 d6 d7 d8 d9 d10 d11 d12 d13
  have hlen0 := swW_len x y false
  obtain ⟨ws, hws⟩ : ∃ ws, ws = swW x y false := ⟨_, rfl⟩
  rw [← hws] at hO HQw hlen0
  rw [← hlen0] at hO
  have hlen : x.b + 2 < ws.length ∧ ws.length ≤ 400 := by omega
  have Hws := Lib.hid hws
  clear hlen0 hws
  have HLd := Lib.hid (pLaid_any (by omega) (by omega) hO)
  clear hO
  go_wp2_with fail
  refine HLd.out.mono ?_
  rintro e w5 ⟨m, rfl, hO⟩
  clear HLd
  obtain ⟨d0, d1, d2, d3, d4, d5, d6, d7, d8, d9, d10, d11, d12, d13⟩ := poCells hO.p2
  have HN1 := Lib.hid (shRaise_any (pp := pp) (np := x.c.ps.length) (cp := cp) (pl := pl) (nl := x.c.ls.length) (cl := cl) x.c hst x.v x.k hvb.1 (by omega) x.b (x.b + 1) (Po.b_eq Hr.out) (by rw [Po.b_eq Hr.out]; omega) hO)
  have HN2 := fun w L (h : Own W NoF L w) => Lib.hid (shLower_any (pp := pp) (np := x.c.ps.length) (cp := cp) (pl := pl) (nl := x.c.ls.length) (cl := cl) x.c hst x.v x.k hvb.1 (by omega) x.b (x.b + 1) (Po.b_eq Hr.out) (by rw [Po.b_eq Hr.out]; omega) h)
  have Hbd := Lib.hid (sw_bk Hr.out y0 y1 HWf.out Hws.out)
  clear hO
  go_wp2_with fail
  refine HN1.out.mono ?_
  rintro e w6 ⟨g, rfl, hO⟩
  clear HN1 HKd d0 d1 d2 d3 d4 d5 d6 d7 d8 d9 d10 d11 d12 d13
  have hO : Own W NoF (shA g x.v (shP 1 x.b (x.b + 1) x.k) (s0Q (shP 1 x.b (x.b + 1) x.k).kd) :: memA 94 m ws [] :: row vw 3 1 ws.length (intC ws) :: [blk W.heap.size (poO x (.slice pp x.c.ps.length cp) (.slice pl x.c.ls.length cl) ve (.slice pk x.l.length ck))]) w6 := hO
  have hPl := Lib.hid (Shift_play 1 g m x.v x.b (x.b + 1) x.k 1099511627776 (by decide) (by decide) _ ws _ 0 [] [] 9 (by decide) (pksAt_nil _) (by decide) (by decide) (HOk.out 1) (pkQ_nil _ _) (QI.from9 (HOk.out 1) (HQw.out 1) (by decide) [] 0 rfl) hO)
  obtain ⟨s1, lg1, -, -, wb, eP, -, hlb, hne, hWb, hlg1⟩ := SBk_play (g := g) (g2 := 0) (nd := x.v) (li := x.b) (av := x.b + 1) (n := x.k) (ws := ws) (by omega) hkb.1 hkb.2 HQw.out Hbd.out.1 Hbd.out.2
  have H2 := Lib.hid (fun g2 => SBk_play (g := g) (g2 := g2) (nd := x.v) (li := x.b) (av := x.b + 1) (n := x.k) (ws := ws) (by omega) hkb.1 hkb.2 HQw.out Hbd.out.1 Hbd.out.2)
  rw [show (9 : Int).toNat = 9 from rfl, eP] at hPl
  have HeP := Lib.hid eP
  have Hlb := Lib.hid hlb
  have Hne := Lib.hid hne
  clear hO eP HPk HLi HAv HrLi HrAv hlb hne
  go_wp2_with fail
  refine hPl.out.mono ?_
  rintro e w7 ⟨rfl, hO⟩
  have hO : Own W NoF (shA g x.v (shP 1 x.b (x.b + 1) x.k) s1 :: memA 94 m wb lg1 :: row vw 3 1 ws.length (intC ws) :: [blk W.heap.size (poO x (.slice pp x.c.ps.length cp) (.slice pl x.c.ls.length cl) ve (.slice pk x.l.length ck))]) w7 := hO
  have hO := hO.swap
  have HW1 := Lib.hid (Words_any (by rw [Hlb.out]; omega) hO)
  rw [Hlb.out] at HW1
  clear hPl hO
  go_wp2_with fail
  refine HW1.out.mono ?_
  rintro e w8 ⟨vb, rfl, hO⟩
  have hO : Own W NoF (row vb 3 1 ws.length (intC wb) :: memA 94 m wb lg1 :: shA g x.v (shP 1 x.b (x.b + 1) x.k) s1 :: row vw 3 1 ws.length (intC ws) :: [blk W.heap.size (poO x (.slice pp x.c.ps.length cp) (.slice pl x.c.ls.length cl) ve (.slice pk x.l.length ck))]) w8 := hO
  clear HW1
  obtain ⟨d0, d1, d2, d3, d4, d5, d6, d7, d8, d9, d10, d11, d12, d13⟩ := poCells hO.p4
  have HN := HN2 _ _ hO.swap
  clear hO HN2
  go_wp2_with fail
  refine HN.out.mono ?_
  rintro e w9 ⟨g2, rfl, hO⟩
  clear HN d0 d1 d2 d3 d4 d5 d6 d7 d8 d9 d10 d11 d12 d13
  have hO : Own W NoF (shA g2 x.v (shP 2 x.b (x.b + 1) x.k) (s0Q (shP 2 x.b (x.b + 1) x.k).kd) :: memA 94 m wb lg1 :: row vb 3 1 ws.length (intC wb) :: shA g x.v (shP 1 x.b (x.b + 1) x.k) s1 :: row vw 3 1 ws.length (intC ws) :: [blk W.heap.size (poO x (.slice pp x.c.ps.length cp) (.slice pl x.c.ls.length cl) ve (.slice pk x.l.length ck))]) w9 := hO
  have hPl := Lib.hid (Shift_play 2 g2 m x.v x.b (x.b + 1) x.k 2199023255552 (by decide) (by decide) _ wb _ 3 lg1 [] 9 (by decide) (pksAt_nil _) (by decide) (by decide) (HOk.out 2) (pkQ_nil _ _) (QI.from9 (HOk.out 2) hWb (by decide) lg1 3 hlg1) hO)
  obtain ⟨s1', lg1', s2, lg2, wb', eP1, eP2, -⟩ := H2.out g2
  have heq := HeP.out.symm.trans eP1
  obtain ⟨-, h⟩ := Prod.mk.inj heq
  obtain ⟨-, h⟩ := Prod.mk.inj h
  obtain ⟨-, h⟩ := Prod.mk.inj h
  obtain ⟨h4, h5⟩ := Prod.mk.inj h
  rw [← h4, ← h5] at eP2
  rw [show (9 : Int).toNat = 9 from rfl, eP2] at hPl
  clear hO eP1 eP2 heq h h4 h5 H2 HeP hWb hlg1
  go_wp2_with fail
  refine hPl.out.mono ?_
  rintro e w10 ⟨rfl, hO⟩
  have hO : Own W NoF (shA g2 x.v (shP 2 x.b (x.b + 1) x.k) s2 :: memA 94 m ws lg2 :: row vb 3 1 ws.length (intC wb) :: shA g x.v (shP 1 x.b (x.b + 1) x.k) s1 :: row vw 3 1 ws.length (intC ws) :: [blk W.heap.size (poO x (.slice pp x.c.ps.length cp) (.slice pl x.c.ls.length cl) ve (.slice pk x.l.length ck))]) w10 := hO
  have HWs := Lib.hid (Words_b (by omega) hO.swap)
  have HO := Lib.hid hO
  clear hPl hO
  go_wp2_with fail
  refine HWs.out.mono ?_
  rintro e w11 ⟨vu, rfl, hA⟩
  have HSi := Lib.hid (SameInts_yes hA.intsAt (HO.out.p4.intsAt.below hA.toBelow) (by omega))
  have HO2 := Lib.hid (HO.out.below hA.toBelow)
  clear hA HWs HO
  go_wp2_with fail
  refine HSi.out.mono ?_
  rintro e w12 ⟨rfl, hD⟩
  have hO := HO2.out.below hD.below
  have HB := Lib.hid hO.toBelow
  have hI : IntsAt w12 .i64 vb wb := Own.intsAt (by rw [Hlb.out]; exact hO.p2)
  have HSn := Lib.hid (SameInts_no hI hO.p4.intsAt (by rw [Hlb.out]; omega) Hlb.out.symm x.b (by rw [Hlb.out]; omega) Hne.out)
  clear hD HSi HO2 hO hI
  go_wp2_with fail
  refine HSn.out.mono ?_
  rintro e w13 ⟨rfl, hD⟩
  have HB2 := Lib.hid (Stp.trans (show Stp W _ from HB.out) hD.below)
  clear hD HSn HB
  go_wp2_with fail
  go_ret
  exact ⟨rfl, HB2.out⟩
theorem ShiftBack_calls (W : World) (x : Po) (vp vl ve vk : Value) (hwd : Wide x.c) (hwf : x.Wf) (hp : IntsAt W .i64 vp x.c.ps) (hl : IntsAt W .i64 vl x.c.ls) (he : IntsAt W .u32 ve x.ls) (hk : PksAt W vk x.l) (y : Int) (y0 : IntKind.u32.min ≤ y) (y1 : y ≤ IntKind.u32.max) :
    Calls Try.prog 7 #[poV x vp vl ve vk, .int .u32 y] W fun e w' => e = .returned (.bool true) ∧ Below W.heap.size W w' := by
  by_cases hg : GoodP x
  · exact ShiftBack_main W x ⟨hwd, hwf, hp, hl, he, hk⟩ hg y y0 y1
  · exact ShiftBack_bad W x ⟨hwd, hwf, hp, hl, he, hk⟩ hg y y0 y1
end Go.Proofs.Ytlkiadionpnijaa
