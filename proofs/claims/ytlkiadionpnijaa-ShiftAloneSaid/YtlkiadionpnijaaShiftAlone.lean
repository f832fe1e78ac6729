/- ShiftAlone. Written by tools/gen_shift*.py. -/
import Derived.Test.YtlkiadionpnijaaShiftHead
namespace Go.Proofs.Ytlkiadionpnijaa
open Go.ChangeShapes Go.WideShapes Go.ChangeAt Go.RowKit Go.Shelf
set_option linter.unusedVariables false
set_option linter.unusedSimpArgs false
set_option maxRecDepth 100000
variable {ws : List Int}
theorem SA_play {what g : Nat} {nd : Int} {li av : Nat} {n : Int} (h3 : what < 3) (hne : li ≠ av) (n0 : 1 ≤ n) (n1 : n ≤ 1048576) (hw : QW (shP what li av n) 1099511627776 ws) :
    ∃ k s' ws' lg', playF (shM g nd (shP what li av n) (1099511627776 + 2097152)) [] 300 0 (s0Q (shP what li av n).kd) ws [] = (k, true, s', ws', lg') ∧
      ((what = 0 ∧ k = 1 ∧ erQ (shP what li av n) s' = 0 ∧ anQ nd (shP what li av n) s' = 0) ∨
       (what = 1 ∧ k = 1 ∧ erQ (shP what li av n) s' = 6 ∧ anQ nd (shP what li av n) s' = 0 ∧ ws' = ws ∧ 1099511627776 < ws.getD li 0 + n) ∨
       (what = 1 ∧ k = 3 ∧ erQ (shP what li av n) s' = 0 ∧ anQ nd (shP what li av n) s' = 0 ∧ ws.getD li 0 + n ≤ 1099511627776) ∨
       (what = 2 ∧ k = 1 ∧ erQ (shP what li av n) s' = 4 ∧ anQ nd (shP what li av n) s' = nd ∧ ws' = ws ∧ ws.getD av 0 < n) ∨
       (what = 2 ∧ k = 3 ∧ erQ (shP what li av n) s' = 0 ∧ anQ nd (shP what li av n) s' = 0 ∧ n ≤ ws.getD av 0)) := by
  have hp := shP_ok (what := what) hne n0 n1
  obtain ⟨lg', e⟩ := shift_alone (M := shM g nd (shP what li av n) (1099511627776 + 2097152)) rfl hp (by decide) hw 300 (by decide) []
  have h3' : what = 0 ∨ what = 1 ∨ what = 2 := by omega
  rcases h3' with rfl | rfl | rfl
  · rw [if_pos (by rfl)] at e
    exact ⟨_, _, _, _, e, Or.inl ⟨rfl, rfl, rfl, rfl⟩⟩
  · rw [if_neg (by simp [shP])] at e
    have hq : noQ (shP 1 li av n) (ws.getD (shP 1 li av n).fi 0) = decide (1099511627776 < ws.getD li 0 + n) := by simp [noQ, shP]
    rw [hq] at e
    by_cases hc : 1099511627776 < ws.getD li 0 + n
    · rw [if_pos (by rw [decide_eq_true hc])] at e
      exact ⟨_, _, _, _, e, Or.inr (Or.inl ⟨rfl, rfl, rfl, rfl, rfl, hc⟩)⟩
    · rw [if_neg (by rw [decide_eq_false hc]; decide)] at e
      exact ⟨_, _, _, _, e, Or.inr (Or.inr (Or.inl ⟨rfl, rfl, rfl, rfl, by omega⟩))⟩
  · rw [if_neg (by simp [shP])] at e
    have hq : noQ (shP 2 li av n) (ws.getD (shP 2 li av n).fi 0) = decide (ws.getD av 0 < n) := by simp [noQ, shP]
    rw [hq] at e
    by_cases hc : ws.getD av 0 < n
    · rw [if_pos (by rw [decide_eq_true hc])] at e
      exact ⟨_, _, _, _, e, Or.inr (Or.inr (Or.inr (Or.inl ⟨rfl, rfl, rfl, rfl, rfl, hc⟩)))⟩
    · rw [if_neg (by rw [decide_eq_false hc]; decide)] at e
      exact ⟨_, _, _, _, e, Or.inr (Or.inr (Or.inr (Or.inr ⟨rfl, rfl, rfl, rfl, by omega⟩)))⟩
theorem sw_bd {x : Po} (h : ∀ what, QW (shP what x.b (x.b + 1) x.k) 1099511627776 ws) : (-1099511627776 ≤ ws.getD x.b 0 ∧ ws.getD x.b 0 ≤ 1099511627776) ∧ (-1099511627776 ≤ ws.getD (x.b + 1) 0 ∧ ws.getD (x.b + 1) 0 ≤ 1099511627776) := by
  have h0 := h 0
  exact ⟨⟨h0.f0, h0.f1⟩, ⟨h0.l0, h0.l1⟩⟩
theorem ShiftAlone_bad (W : World) (x : Po) {vp vl ve vk : Value} (H : PoAt W x vp vl ve vk) (hg : ¬ GoodP x) (u : Int) (u0 : 0 ≤ u) (u1 : u ≤ 255) (y : Int) (y0 : 0 ≤ y) (y1 : y ≤ 4294967295) (big : Bool) :
    Calls Try.prog 6 #[poV x vp vl ve vk, .int .u8 u, .int .u32 y, .bool big] W fun e w' => e = .returned (.bool true) ∧ Below W.heap.size W w' := by
  obtain ⟨pp, cp, rfl⟩ := H.p.slice
  obtain ⟨pl, cl, rfl⟩ := H.l.slice
  obtain ⟨pk, ck, rfl⟩ := PksAt.slice H.k
  have h0 := (Own.start W).new (poO x (.slice pp x.c.ps.length cp) (.slice pl x.c.ls.length cl) ve (.slice pk x.l.length ck))
  have Hh := Lib.hid (head9_any h0)
  have HG := fun w' (hb : Stp W w') => Lib.hid (pGood_no (H.stp hb) hg)
  unfold poV at HG ⊢
  clear h0 H hg
  go_enter Try.func6, Try.ntmps6
  go_wp2_with fail
  refine Hh.out.mono ?_
  rintro e w1 ⟨rfl, hO⟩
  obtain ⟨d0, d1, d2, d3, d4, d5, d6, d7, d8, d9, d10, d11, d12, d13⟩ := poCells hO
  go_wp2_with fail
  refine (HG _ hO.toBelow).out.mono ?_
  rintro e w2 ⟨rfl, hB⟩
  have hO := hO.below hB
  clear hB HG Hh d0 d1 d2 d3 d4 d5 d6 d7 d8 d9 d10 d11 d12 d13
  have HB := Lib.hid hO.toBelow
  clear hO
  go_wp2_with fail
  go_ret
  exact ⟨rfl, HB.out⟩
set_option maxHeartbeats 20000000 in
theorem ShiftAlone_main (W : World) (x : Po) {vp vl ve vk : Value} (H : PoAt W x vp vl ve vk) (hg : GoodP x) (u : Int) (u0 : 0 ≤ u) (u1 : u ≤ 255) (y : Int) (y0 : 0 ≤ y) (y1 : y ≤ 4294967295) (big : Bool) :
    Calls Try.prog 6 #[poV x vp vl ve vk, .int .u8 u, .int .u32 y, .bool big] W fun e w' => e = .returned (.bool true) ∧ Below W.heap.size W w' := by
  obtain ⟨pp, cp, rfl⟩ := H.p.slice
  obtain ⟨pl, cl, rfl⟩ := H.l.slice
  obtain ⟨pk, ck, rfl⟩ := PksAt.slice H.k
  have h0 := (Own.start W).new (poO x (.slice pp x.c.ps.length cp) (.slice pl x.c.ls.length cl) ve (.slice pk x.l.length ck))
  have Hh := Lib.hid (head9_any h0)
  have hr := hg.rt
  have HG := fun w' (hb : Stp W w') => Lib.hid (pGood_yes (H.stp hb) hg)
  have HOf := fun w' (hb : Stp W w') => Lib.hid (pOf_any (H.stp hb) hr)
  have HWd := fun w L (h : Own W NoF L w) => Lib.hid (sWords_any y y0 y1 big H hg h)
  have HPk := fun w L (h : Own W NoF L w) => Lib.hid (sPokes_any H hg h)
  have HQw := Lib.hid (fun what => swW_qw hr H.wf what y y0 y1 big)
  have HPq := Lib.hid (fun what => pkQ_poS (x := x) (what := what) (B := 1099511627776) (by decide))
  have hin := Po.b_in hr
  have hvb := Po.v_bd hr
  have hkb := Po.k_bd (x := x)
  have hn1 := hr.n1
  have hbe := Po.b_eq hr
  have hst := hr.sm
  have Hr := Lib.hid hr
  have hl40 := hg.l
  have HOk := Lib.hid (fun what => shP_ok (what := what) (li := x.b) (av := x.b + 1) (n := x.k) (by omega) hkb.1 hkb.2)
  have HKd := fun u u0 u1 w L (h : Own W NoF L w) => Lib.hid (kind_any (w0 := W) (F0 := NoF) (L := L) (w := w) (pp := pp) (np := x.c.ps.length) (cp := cp) (pl := pl) (nl := x.c.ls.length) (cl := cl) x.c hst x.v x.k hvb.1 (by omega) x.b (x.b + 1) hbe (by rw [hbe]; omega) u u0 u1 h)
  have HLi := fun w => Lib.hid (show Calls Try.prog 26 #[cfV x.c (.slice pp x.c.ps.length cp) (.slice pl x.c.ls.length cl), .int .i64 x.v] w (fun e w' => e = .returned (.int .i64 (x.b : Nat)) ∧ Below w.heap.size w w') by rw [← hbe]; exact Limit_q (pp := pp) (np := x.c.ps.length) (cp := cp) (pl := pl) (nl := x.c.ls.length) (cl := cl) x.c hst x.v hvb.1 (by omega) w)
  have HAv := fun w => Lib.hid (show Calls Try.prog 27 #[cfV x.c (.slice pp x.c.ps.length cp) (.slice pl x.c.ls.length cl), .int .i64 x.v] w (fun e w' => e = .returned (.int .i64 ((x.b + 1 : Nat) : Int)) ∧ Below w.heap.size w w') by rw [show ((x.b + 1 : Nat) : Int) = lim x.c x.v + 1 by rw [hbe]; omega]; exact Avail_q (pp := pp) (np := x.c.ps.length) (cp := cp) (pl := pl) (nl := x.c.ls.length) (cl := cl) x.c hst x.v hvb.1 (by omega) w)
  have HrLi := fun w => Lib.hid (show Calls Try.prog 30 #[cfV x.c (.slice pp x.c.ps.length cp) (.slice pl x.c.ls.length cl), .int .i64 x.v] w (fun e w' => e = .returned (.int .i64 (x.b : Nat)) ∧ Below w.heap.size w w') by rw [← hbe]; exact rLimit_q (pp := pp) (np := x.c.ps.length) (cp := cp) (pl := pl) (nl := x.c.ls.length) (cl := cl) x.c hst x.v hvb.1 (by omega) w)
  have HrAv := fun w => Lib.hid (show Calls Try.prog 31 #[cfV x.c (.slice pp x.c.ps.length cp) (.slice pl x.c.ls.length cl), .int .i64 x.v] w (fun e w' => e = .returned (.int .i64 ((x.b + 1 : Nat) : Int)) ∧ Below w.heap.size w w') by rw [show ((x.b + 1 : Nat) : Int) = lim x.c x.v + 1 by rw [hbe]; omega]; exact rAvail_q (pp := pp) (np := x.c.ps.length) (cp := cp) (pl := pl) (nl := x.c.ls.length) (cl := cl) x.c hst x.v hvb.1 (by omega) w)
  clear hbe
  obtain ⟨K, hK⟩ : ∃ K : Nat, u % 3 = (K : Int) := ⟨(u % 3).toNat, by omega⟩
  have hK3 : K < 3 := by omega
  have hKK : (u % 3).toNat = K := by omega
  have e1 : u.tmod 3 = (K : Int) := by rw [← hK]; exact Int.tmod_eq_emod_of_nonneg u0
  have HKd := fun w L h => HKd u u0 u1 w L h
  rw [hKK] at HKd
  unfold poV at HG HOf HWd HPk ⊢
  clear h0 H hg hr
  go_enter Try.func6, Try.ntmps6
  go_wp2_with fail
  refine Hh.out.mono ?_
  rintro e w1 ⟨rfl, hO⟩
  obtain ⟨d0, d1, d2, d3, d4, d5, d6, d7, d8, d9, d10, d11, d12, d13⟩ := poCells hO
  go_wp2_with fail
  refine (HG _ hO.toBelow).out.mono ?_
  rintro e w2 ⟨rfl, hB⟩
  have hO := hO.below hB
  clear hB HG Hh d0 d1 d2 d3 d4 d5 d6 d7 d8 d9 d10 d11 d12 d13
  obtain ⟨d0, d1, d2, d3, d4, d5, d6, d7, d8, d9, d10, d11, d12, d13⟩ := poCells hO
  go_wp2_with fail
  refine (HOf _ hO.toBelow).out.mono ?_
  rintro e w3 ⟨rfl, hB⟩
  have hO := hO.below hB
  clear hB HOf d0 d1 d2 d3 d4 d5 d6 d7 d8 d9 d10 d11 d12 d13
  obtain ⟨d0, d1, d2, d3, d4, d5, d6, d7, d8, d9, d10, d11, d12, d13⟩ := poCells hO
  go_wp2_with fail
  refine (HWd _ _ hO).out.mono ?_
  rintro e w4 ⟨vw, rfl, hO⟩
  clear HWd d0 d1 d2 d3 d4 d5 d6 d7 d8 d9 d10 d11 d12 d13
  have hlen0 := swW_len x y big
  obtain ⟨ws, hws⟩ : ∃ ws, ws = swW x y big := ⟨_, rfl⟩
  rw [← hws] at hO HQw hlen0
  rw [← hlen0] at hO
  have hlen : x.b + 2 < ws.length ∧ ws.length ≤ 400 := by omega
  have Hws := Lib.hid hws
  clear hlen0 hws
  have HLd := Lib.hid (pLaid_any (by omega) (by omega) hO)
  clear hO
  go_wp2_with fail
  refine HLd.out.mono ?_
  rintro e w5 ⟨m, rfl, hO⟩
  clear HLd
  obtain ⟨d0, d1, d2, d3, d4, d5, d6, d7, d8, d9, d10, d11, d12, d13⟩ := poCells hO.p2
  have HN := HKd _ _ hO
  clear hO
  go_wp2_with fail
  refine HN.out.mono ?_
  rintro e w6 ⟨g, rfl, hO⟩
  clear HN HKd d0 d1 d2 d3 d4 d5 d6 d7 d8 d9 d10 d11 d12 d13
  have hPl := Lib.hid (Shift_play K g m x.v x.b (x.b + 1) x.k 1099511627776 (by decide) (by decide) _ ws _ 0 [] [] 300 (by decide) (pksAt_nil _) (by decide) (by decide) (HOk.out K) (pkQ_nil _ _) (QI.from9 (HOk.out K) (HQw.out K) (by decide) [] 0 rfl) hO)
  obtain ⟨k, s', ws', lg', eP, hcase⟩ := SA_play (g := g) (nd := x.v) hK3 (by omega) hkb.1 hkb.2 (HQw.out K)
  rw [show (300 : Int).toNat = 300 from rfl, eP] at hPl
  obtain ⟨hxl, hxa⟩ := sw_bd HQw.out
  clear hO eP HPk HLi HAv
  go_wp2_with fail
  refine hPl.out.mono ?_
  rintro e w8 ⟨rfl, hO⟩
  have hO : Own W NoF (shA g x.v (shP K x.b (x.b + 1) x.k) s' :: memA 94 m ws' lg' :: row vw 3 1 ws.length (intC ws) :: [blk W.heap.size (poO x (.slice pp x.c.ps.length cp) (.slice pl x.c.ls.length cl) ve (.slice pk x.l.length ck))]) w8 := hO
  obtain ⟨pw, cw, rfl⟩ := row_slice (show Own W NoF (row vw 3 1 ws.length (intC ws) :: shA g x.v (shP K x.b (x.b + 1) x.k) s' :: memA 94 m ws' lg' :: [blk W.heap.size (poO x (.slice pp x.c.ps.length cp) (.slice pl x.c.ls.length cl) ve (.slice pk x.l.length ck))]) w8 from hO.p2)
  obtain ⟨bw, ow, cw2, hv, hc⟩ := (show Own W NoF (row (.slice pw ws.length cw) 3 1 ws.length (intC ws) :: shA g x.v (shP K x.b (x.b + 1) x.k) s' :: memA 94 m ws' lg' :: [blk W.heap.size (poO x (.slice pp x.c.ps.length cp) (.slice pl x.c.ls.length cl) ve (.slice pk x.l.length ck))]) w8 from hO.p2).intsAt.at (by omega)
  injection hv with hv hvq hv2
  clear hvq
  subst hv hv2
  have cl := hc x.b (by omega)
  have ca := hc (x.b + 1) (by omega)
  have i1 : (x.b : Int) < (ws.length : Int) := by omega
  have i2 : ((x.b + 1 : Nat) : Int) < (ws.length : Int) := by omega
  have i3 : (x.b : Int) + 1 < (ws.length : Int) := by omega
  obtain ⟨xl, hxl2⟩ : ∃ z, z = ws.getD x.b 0 := ⟨_, rfl⟩
  obtain ⟨xa, hxa2⟩ : ∃ z, z = ws.getD (x.b + 1) 0 := ⟨_, rfl⟩
  rw [← hxl2] at hxl hcase cl
  rw [← hxa2] at hxa hcase ca
  clear hc hxl2 hxa2 hPl
  obtain ⟨d0, d1, d2, d3, d4, d5, d6, d7, d8, d9, d10, d11, d12, d13⟩ := poCells hO.p3
  go_wp2_with fail
  refine (HrLi _).out.mono ?_
  rintro e w9 ⟨rfl, hB⟩
  have hO := hO.below hB
  have cl := Stp.cell hB cl
  have ca := Stp.cell hB ca
  clear hB d0 d1 d2 d3 d4 d5 d6 d7 d8 d9 d10 d11 d12 d13
  obtain ⟨d0, d1, d2, d3, d4, d5, d6, d7, d8, d9, d10, d11, d12, d13⟩ := poCells hO.p3
  go_wp2_with fail
  refine (HrAv _).out.mono ?_
  rintro e w10 ⟨rfl, hB⟩
  have hO := hO.below hB
  have cl := Stp.cell hB cl
  have ca := Stp.cell hB ca
  clear hB d0 d1 d2 d3 d4 d5 d6 d7 d8 d9 d10 d11 d12 d13
  obtain ⟨d0, d1, d2, d3, d4, d5, d6, d7, d8, d9, d10, d11, d12, d13⟩ := poCells hO.p3
  clear HrLi HrAv
  have hq1 : IntKind.i64.wrap (xl + x.k) = xl + x.k := IntWalk.i64_in _ (by omega)
  rcases hcase with ⟨rfl, rfl, hE1, hE2⟩ | ⟨rfl, rfl, hE1, hE2, rfl, h6⟩ | ⟨rfl, rfl, hE1, hE2, h6⟩ | ⟨rfl, rfl, hE1, hE2, rfl, h6⟩ | ⟨rfl, rfl, hE1, hE2, h6⟩
  · have hwx : IntKind.i64.wrap (xl + x.k) = xl + x.k := IntWalk.i64_in _ (by omega)
    have HA := Lib.hid (shAns_any hO)
    unfold ansV at HA
    rw [hE1, hE2] at HA
    have qq := ans_refl (0) 0 false (0)
    have HO := Lib.hid hO
    clear hO hE1 hE2 d0 d1 d2 d3 d4 d5 d6 d7 d8 d9 d10 d11 d12 d13
    go_wp2_with fail
    refine HA.out.mono ?_
    rintro e w13 ⟨rfl, hB⟩
    have hO := HO.out.below hB
    clear HA HO hB
    have HB := Lib.hid hO.toBelow
    clear hO
    go_wp2_with fail
    go_ret
    exact ⟨rfl, HB.out⟩
  · have hwx : IntKind.i64.wrap (xl + x.k) = xl + x.k := IntWalk.i64_in _ (by omega)
    have hd1 : decide (1099511627776 < xl + x.k) = true := by simp; omega
    have HA := Lib.hid (shAns_any hO)
    unfold ansV at HA
    rw [hE1, hE2] at HA
    have qq := ans_refl (6) 0 false (0)
    have HO := Lib.hid hO
    clear hO hE1 hE2 d0 d1 d2 d3 d4 d5 d6 d7 d8 d9 d10 d11 d12 d13
    go_wp2_with fail
    refine HA.out.mono ?_
    rintro e w13 ⟨rfl, hB⟩
    have hO := HO.out.below hB
    clear HA HO hB
    have HWs := Lib.hid (Words_b (by omega) hO.swap)
    have HO := Lib.hid hO
    clear hO
    go_wp2_with fail
    refine HWs.out.mono ?_
    rintro e w14 ⟨vu, rfl, hA⟩
    have HSi := Lib.hid (SameInts_yes hA.intsAt (HO.out.p2.intsAt.below hA.toBelow) (by omega))
    have HB := Lib.hid (Stp.trans (show Stp W _ from HO.out.toBelow) hA.toBelow)
    clear hA HWs HO cl ca
    go_wp2_with fail
    refine HSi.out.mono ?_
    rintro e w15 ⟨rfl, hD⟩
    have HB2 := Lib.hid (Stp.trans HB.out hD.below)
    clear hD HSi HB
    go_wp2_with fail
    go_ret
    exact ⟨rfl, HB2.out⟩
  · have hwx : IntKind.i64.wrap (xl + x.k) = xl + x.k := IntWalk.i64_in _ (by omega)
    have hd1 : decide (1099511627776 < xl + x.k) = false := by simp; omega
    have HA := Lib.hid (shAns_any hO)
    unfold ansV at HA
    rw [hE1, hE2] at HA
    have qq := ans_refl (0) 0 false (0)
    have HO := Lib.hid hO
    clear hO hE1 hE2 d0 d1 d2 d3 d4 d5 d6 d7 d8 d9 d10 d11 d12 d13
    go_wp2_with fail
    refine HA.out.mono ?_
    rintro e w13 ⟨rfl, hB⟩
    have hO := HO.out.below hB
    clear HA HO hB
    have HB := Lib.hid hO.toBelow
    clear hO
    go_wp2_with fail
    go_ret
    exact ⟨rfl, HB.out⟩
  · have hwx : IntKind.i64.wrap (xl + x.k) = xl + x.k := IntWalk.i64_in _ (by omega)
    have hd1 : decide (xa < x.k) = true := by simp; omega
    have HA := Lib.hid (shAns_any hO)
    unfold ansV at HA
    rw [hE1, hE2] at HA
    have qq := ans_refl (4) 0 false (x.v)
    have HO := Lib.hid hO
    clear hO hE1 hE2 d0 d1 d2 d3 d4 d5 d6 d7 d8 d9 d10 d11 d12 d13
    go_wp2_with fail
    refine HA.out.mono ?_
    rintro e w13 ⟨rfl, hB⟩
    have hO := HO.out.below hB
    clear HA HO hB
    have HWs := Lib.hid (Words_b (by omega) hO.swap)
    have HO := Lib.hid hO
    clear hO
    go_wp2_with fail
    refine HWs.out.mono ?_
    rintro e w14 ⟨vu, rfl, hA⟩
    have HSi := Lib.hid (SameInts_yes hA.intsAt (HO.out.p2.intsAt.below hA.toBelow) (by omega))
    have HB := Lib.hid (Stp.trans (show Stp W _ from HO.out.toBelow) hA.toBelow)
    clear hA HWs HO cl ca
    go_wp2_with fail
    refine HSi.out.mono ?_
    rintro e w15 ⟨rfl, hD⟩
    have HB2 := Lib.hid (Stp.trans HB.out hD.below)
    clear hD HSi HB
    go_wp2_with fail
    go_ret
    exact ⟨rfl, HB2.out⟩
  · have hwx : IntKind.i64.wrap (xl + x.k) = xl + x.k := IntWalk.i64_in _ (by omega)
    have hd1 : decide (xa < x.k) = false := by simp; omega
    have HA := Lib.hid (shAns_any hO)
    unfold ansV at HA
    rw [hE1, hE2] at HA
    have qq := ans_refl (0) 0 false (0)
    have HO := Lib.hid hO
    clear hO hE1 hE2 d0 d1 d2 d3 d4 d5 d6 d7 d8 d9 d10 d11 d12 d13
    go_wp2_with fail
    refine HA.out.mono ?_
    rintro e w13 ⟨rfl, hB⟩
    have hO := HO.out.below hB
    clear HA HO hB
    have HB := Lib.hid hO.toBelow
    clear hO
    go_wp2_with fail
    go_ret
    exact ⟨rfl, HB.out⟩
theorem ShiftAlone_calls (W : World) (x : Po) (vp vl ve vk : Value) (hwd : Wide x.c) (hwf : x.Wf) (hp : IntsAt W .i64 vp x.c.ps) (hl : IntsAt W .i64 vl x.c.ls) (he : IntsAt W .u32 ve x.ls) (hk : PksAt W vk x.l) (u : Int) (u0 : IntKind.u8.min ≤ u) (u1 : u ≤ IntKind.u8.max) (y : Int) (y0 : IntKind.u32.min ≤ y) (y1 : y ≤ IntKind.u32.max) (big : Bool) :
    Calls Try.prog 6 #[poV x vp vl ve vk, .int .u8 u, .int .u32 y, .bool big] W fun e w' => e = .returned (.bool true) ∧ Below W.heap.size W w' := by
  by_cases hg : GoodP x
  · exact ShiftAlone_main W x ⟨hwd, hwf, hp, hl, he, hk⟩ hg u u0 u1 y y0 y1 big
  · exact ShiftAlone_bad W x ⟨hwd, hwf, hp, hl, he, hk⟩ hg u u0 u1 y y0 y1 big
end Go.Proofs.Ytlkiadionpnijaa
