/- ShiftTells. Written by tools/gen_shift*.py. -/
import Derived.Test.YtlkiadionpnijaaShiftHead
namespace Go.Proofs.Ytlkiadionpnijaa
open Go.ChangeShapes Go.WideShapes Go.ChangeAt Go.RowKit Go.Shelf
set_option linter.unusedVariables false
set_option linter.unusedSimpArgs false
set_option maxRecDepth 100000
variable {ws : List Int}
theorem rsAns_any {w0 w : World} {F0 : Nat → Prop} {L : List Asn} {k : Nat} {c : Cf} {pp pl : Option Addr} {np cp nl cl : Nat} {nd : Int} {p : QP} {s : QS} (h : Own w0 F0 (rsA k c pp np cp pl nl cl nd p s :: L) w) :
    Calls Try.prog 20 #[.pointer (some ⟨k, 0, none⟩)] w fun e w' => e = .returned (ansV (erQ p s) 0 false (anQ nd p s)) ∧ Below w.heap.size w w' := r9Ans_any h
theorem ShiftTells_bad (W : World) (x : Po) {vp vl ve vk : Value} (H : PoAt W x vp vl ve vk) (hg : ¬ GoodP x) (u : Int) (u0 : 0 ≤ u) (u1 : u ≤ 255) (y : Int) (y0 : 0 ≤ y) (y1 : y ≤ 4294967295) (big : Bool) (q : Int) (q0 : 0 ≤ q) (q1 : q ≤ 255) :
    Calls Try.prog 3 #[poV x vp vl ve vk, .int .u8 u, .int .u32 y, .bool big, .int .u8 q] W fun e w' => e = .returned (.bool true) ∧ Below W.heap.size W w' := by
  obtain ⟨pp, cp, rfl⟩ := H.p.slice
  obtain ⟨pl, cl, rfl⟩ := H.l.slice
  obtain ⟨pk, ck, rfl⟩ := PksAt.slice H.k
  have h0 := (Own.start W).new (poO x (.slice pp x.c.ps.length cp) (.slice pl x.c.ls.length cl) ve (.slice pk x.l.length ck))
  have Hh := Lib.hid (head9_any h0)
  have HG := fun w' (hb : Stp W w') => Lib.hid (pGood_no (H.stp hb) hg)
  unfold poV at HG ⊢
  clear h0 H hg
  go_enter Try.func3, Try.ntmps3
  go_wp2_with fail
  refine Hh.out.mono ?_
  rintro e w1 ⟨rfl, hO⟩
  obtain ⟨d0, d1, d2, d3, d4, d5, d6, d7, d8, d9, d10, d11, d12, d13⟩ := poCells hO
  go_wp2_with fail
  refine (HG _ hO.toBelow).out.mono ?_
  rintro e w2 ⟨rfl, hB⟩
  have hO := hO.below hB
  clear hB HG Hh d0 d1 d2 d3 d4 d5 d6 d7 d8 d9 d10 d11 d12 d13
  have HB := Lib.hid hO.toBelow
  clear hO
  go_wp2_with fail
  go_ret
  exact ⟨rfl, HB.out⟩
set_option maxHeartbeats 20000000 in
theorem ShiftTells_main (W : World) (x : Po) {vp vl ve vk : Value} (H : PoAt W x vp vl ve vk) (hg : GoodP x) (u : Int) (u0 : 0 ≤ u) (u1 : u ≤ 255) (y : Int) (y0 : 0 ≤ y) (y1 : y ≤ 4294967295) (big : Bool) (q : Int) (q0 : 0 ≤ q) (q1 : q ≤ 255) :
    Calls Try.prog 3 #[poV x vp vl ve vk, .int .u8 u, .int .u32 y, .bool big, .int .u8 q] W fun e w' => e = .returned (.bool true) ∧ Below W.heap.size W w' := by
  obtain ⟨pp, cp, rfl⟩ := H.p.slice
  obtain ⟨pl, cl, rfl⟩ := H.l.slice
  obtain ⟨pk, ck, rfl⟩ := PksAt.slice H.k
  have h0 := (Own.start W).new (poO x (.slice pp x.c.ps.length cp) (.slice pl x.c.ls.length cl) ve (.slice pk x.l.length ck))
  have Hh := Lib.hid (head9_any h0)
  have hr := hg.rt
  have HG := fun w' (hb : Stp W w') => Lib.hid (pGood_yes (H.stp hb) hg)
  have HOf := fun w' (hb : Stp W w') => Lib.hid (pOf_any (H.stp hb) hr)
  have HWd := fun w L (h : Own W NoF L w) => Lib.hid (sWords_any y y0 y1 big H hg h)
  have HPk := fun w L (h : Own W NoF L w) => Lib.hid (sPokes_any H hg h)
  have HQw := Lib.hid (fun what => swW_qw hr H.wf what y y0 y1 big)
  have HPq := Lib.hid (fun what => pkQ_poS (x := x) (what := what) (B := 1099511627776) (by decide))
  have hin := Po.b_in hr
  have hvb := Po.v_bd hr
  have hkb := Po.k_bd (x := x)
  have hn1 := hr.n1
  have hbe := Po.b_eq hr
  have hst := hr.sm
  have Hr := Lib.hid hr
  have hl40 := hg.l
  have HOk := Lib.hid (fun what => shP_ok (what := what) (li := x.b) (av := x.b + 1) (n := x.k) (by omega) hkb.1 hkb.2)
  have HKd := fun u u0 u1 w L (h : Own W NoF L w) => Lib.hid (kind_any (w0 := W) (F0 := NoF) (L := L) (w := w) (pp := pp) (np := x.c.ps.length) (cp := cp) (pl := pl) (nl := x.c.ls.length) (cl := cl) x.c hst x.v x.k hvb.1 (by omega) x.b (x.b + 1) hbe (by rw [hbe]; omega) u u0 u1 h)
  have HLi := fun w => Lib.hid (show Calls Try.prog 26 #[cfV x.c (.slice pp x.c.ps.length cp) (.slice pl x.c.ls.length cl), .int .i64 x.v] w (fun e w' => e = .returned (.int .i64 (x.b : Nat)) ∧ Below w.heap.size w w') by rw [← hbe]; exact Limit_q (pp := pp) (np := x.c.ps.length) (cp := cp) (pl := pl) (nl := x.c.ls.length) (cl := cl) x.c hst x.v hvb.1 (by omega) w)
  have HAv := fun w => Lib.hid (show Calls Try.prog 27 #[cfV x.c (.slice pp x.c.ps.length cp) (.slice pl x.c.ls.length cl), .int .i64 x.v] w (fun e w' => e = .returned (.int .i64 ((x.b + 1 : Nat) : Int)) ∧ Below w.heap.size w w') by rw [show ((x.b + 1 : Nat) : Int) = lim x.c x.v + 1 by rw [hbe]; omega]; exact Avail_q (pp := pp) (np := x.c.ps.length) (cp := cp) (pl := pl) (nl := x.c.ls.length) (cl := cl) x.c hst x.v hvb.1 (by omega) w)
  have HrLi := fun w => Lib.hid (show Calls Try.prog 30 #[cfV x.c (.slice pp x.c.ps.length cp) (.slice pl x.c.ls.length cl), .int .i64 x.v] w (fun e w' => e = .returned (.int .i64 (x.b : Nat)) ∧ Below w.heap.size w w') by rw [← hbe]; exact rLimit_q (pp := pp) (np := x.c.ps.length) (cp := cp) (pl := pl) (nl := x.c.ls.length) (cl := cl) x.c hst x.v hvb.1 (by omega) w)
  have HrAv := fun w => Lib.hid (show Calls Try.prog 31 #[cfV x.c (.slice pp x.c.ps.length cp) (.slice pl x.c.ls.length cl), .int .i64 x.v] w (fun e w' => e = .returned (.int .i64 ((x.b + 1 : Nat) : Int)) ∧ Below w.heap.size w w') by rw [show ((x.b + 1 : Nat) : Int) = lim x.c x.v + 1 by rw [hbe]; omega]; exact rAvail_q (pp := pp) (np := x.c.ps.length) (cp := cp) (pl := pl) (nl := x.c.ls.length) (cl := cl) x.c hst x.v hvb.1 (by omega) w)
  clear hbe
  obtain ⟨K, hK⟩ : ∃ K : Nat, q % 60 = (K : Int) := ⟨(q % 60).toNat, by omega⟩
  have hK7 : K ≤ 59 := by omega
  have e1 : q.tmod 60 = (K : Int) := by rw [← hK]; exact Int.tmod_eq_emod_of_nonneg q0
  have hw1 : IntKind.i64.wrap q = q := IntWalk.i64_in _ (by omega)
  have hcast : IntKind.i64.wrap q % 60 = (K : Int) := by rw [hw1]; rw [← e1]; exact (Int.tmod_eq_emod_of_nonneg q0).symm
  have hcast2 : q % 60 = (K : Int) := by rw [← e1]; exact (Int.tmod_eq_emod_of_nonneg q0).symm
  have HIp := fun w' (hb : Stp W w') => Lib.hid (H.p.stp hb)
  have HIl := fun w' (hb : Stp W w') => Lib.hid (H.l.stp hb)
  have HKd := fun w L h => HKd u u0 u1 w L h
  have HWn := fun w L h => Lib.hid (want_any (w0 := W) (F0 := NoF) (L := L) (w := w) x.c (vp := .slice pp x.c.ps.length cp) (vl := .slice pl x.c.ls.length cl) hr (fun w' h => (HIp w' h.toBelow).out) (fun w' h => (HIl w' h.toBelow).out) x.v x.k x.b (x.b + 1) u u0 u1 h)
  generalize (u % 3).toNat = J at *
  clear hK
  unfold poV at HG HOf HWd HPk ⊢
  clear h0 H hg hr
  go_enter Try.func3, Try.ntmps3
  go_wp2_with fail
  refine Hh.out.mono ?_
  rintro e w1 ⟨rfl, hO⟩
  obtain ⟨d0, d1, d2, d3, d4, d5, d6, d7, d8, d9, d10, d11, d12, d13⟩ := poCells hO
  go_wp2_with fail
  refine (HG _ hO.toBelow).out.mono ?_
  rintro e w2 ⟨rfl, hB⟩
  have hO := hO.below hB
  clear hB HG Hh d0 d1 d2 d3 d4 d5 d6 d7 d8 d9 d10 d11 d12 d13
  obtain ⟨d0, d1, d2, d3, d4, d5, d6, d7, d8, d9, d10, d11, d12, d13⟩ := poCells hO
  go_wp2_with fail
  refine (HOf _ hO.toBelow).out.mono ?_
  rintro e w3 ⟨rfl, hB⟩
  have hO := hO.below hB
  clear hB HOf d0 d1 d2 d3 d4 d5 d6 d7 d8 d9 d10 d11 d12 d13
  obtain ⟨d0, d1, d2, d3, d4, d5, d6, d7, d8, d9, d10, d11, d12, d13⟩ := poCells hO
  go_wp2_with fail
  refine (HWd _ _ hO).out.mono ?_
  rintro e w4 ⟨vw, rfl, hO⟩
  clear HWd d0 d1 d2 d3 d4 d5 d6 d7 d8 d9 d10 d11 d12 d13
  have hlen0 := swW_len x y big
  obtain ⟨ws, hws⟩ : ∃ ws, ws = swW x y big := ⟨_, rfl⟩
  rw [← hws] at hO HQw hlen0
  rw [← hlen0] at hO
  have hlen : x.b + 2 < ws.length ∧ ws.length ≤ 400 := by omega
  have Hws := Lib.hid hws
  clear hlen0 hws
  have HLd := Lib.hid (pLaid_any (by omega) (by omega) hO)
  clear hO
  go_wp2_with fail
  refine HLd.out.mono ?_
  rintro e w5 ⟨m, rfl, hO⟩
  clear HLd
  have hO : Own W NoF (row vw 3 1 ws.length (intC ws) :: memA 94 m ws [] :: [blk W.heap.size (poO x (.slice pp x.c.ps.length cp) (.slice pl x.c.ls.length cl) ve (.slice pk x.l.length ck))]) w5 := hO.swap
  obtain ⟨pw, cw, rfl⟩ := row_slice hO
  have hB := (hO.rowNil (e := 91) (size := 5)).new (.cells #[.slice pw ws.length cw, .slice none 0 0] 40)
  have hM : Own W NoF (memA 40 w5.heap.size ws [] :: memA 94 m ws [] :: [blk W.heap.size (poO x (.slice pp x.c.ps.length cp) (.slice pl x.c.ls.length cl) ve (.slice pk x.l.length ck))]) _ := Own.toMem' (ws := ws) (l := []) (hB.under fun _ _ h => h.swap) rfl rfl rfl rfl
  obtain ⟨d0, d1, d2, d3, d4, d5, d6, d7, d8, d9, d10, d11, d12, d13⟩ := poCells hM.p2
  have HN := HKd _ _ hM
  clear hO hB hM HLi HAv HrLi HrAv
  go_wp2_with fail
  generalize w5.heap.size = nb at HN ⊢
  refine HN.out.mono ?_
  rintro e w6 ⟨g, rfl, hO⟩
  clear HN HKd d0 d1 d2 d3 d4 d5 d6 d7 d8 d9 d10 d11 d12 d13
  obtain ⟨d0, d1, d2, d3, d4, d5, d6, d7, d8, d9, d10, d11, d12, d13⟩ := poCells hO.p3
  have HRN := HWn _ _ hO
  clear hO HWn
  go_wp2_with fail
  refine HRN.out.mono ?_
  rintro e w7 ⟨rk, a1, c1, a2, c2, rfl, hO⟩
  clear HRN HIp HIl d0 d1 d2 d3 d4 d5 d6 d7 d8 d9 d10 d11 d12 d13
  obtain ⟨d0, d1, d2, d3, d4, d5, d6, d7, d8, d9, d10, d11, d12, d13⟩ := poCells hO.p4
  have HP := HPk _ _ hO
  clear hO
  go_wp2_with fail
  refine HP.out.mono ?_
  rintro e w8 ⟨vp, rfl, hO⟩
  clear HP d0 d1 d2 d3 d4 d5 d6 d7 d8 d9 d10 d11 d12 d13
  have hv : PksAt w8 vp (poS x) := Own.pksAt hO
  have hO : Own W NoF (row vp 62 3 (poS x).length (pkC (poS x)) :: rsA rk x.c a1 x.c.ps.length c1 a2 x.c.ls.length c2 x.v (shP J x.b (x.b + 1) x.k) (s0Q (shP J x.b (x.b + 1) x.k).kd) :: shA g x.v (shP J x.b (x.b + 1) x.k) (s0Q (shP J x.b (x.b + 1) x.k).kd) :: memA 40 nb ws [] :: memA 94 m ws [] :: [blk W.heap.size (poO x (.slice pp x.c.ps.length cp) (.slice pl x.c.ls.length cl) ve (.slice pk x.l.length ck))]) w8 := hO
  have hPl := Lib.hid (Shift_play J g m x.v x.b (x.b + 1) x.k 1099511627776 (by decide) (by decide) vp ws _ 0 [] (poS x) (K : Int) (by rw [poS_len]; omega) hv (by omega) (by decide) (HOk.out J) (HPq.out J) (QI.from9 (HOk.out J) (HQw.out J) (by decide) [] 0 rfl) hO.p2.p4.swap)
  obtain ⟨n, B1, s', ws', lg', eP, hnK, hlg, hPL⟩ := shift_plays (g := g) (nd := x.v) (B := 1099511627776) (by decide) (by decide) (HOk.out J) (HPq.out J) (QI.from9 (HOk.out J) (HQw.out J) (by decide) [] 0 rfl) K
  have hbe := Po.b_eq Hr.out
  have hRm : RsOk x.c x.v x.b (x.b + 1) := ⟨hst, hvb.1, by omega, hbe, by rw [hbe]; omega⟩
  have hPr0 := fun vp2 w (hv2 : PksAt w vp2 (poS x)) (h : Own W NoF (rsA rk x.c a1 x.c.ps.length c1 a2 x.c.ls.length c2 x.v (shP J x.b (x.b + 1) x.k) (s0Q (shP J x.b (x.b + 1) x.k).kd) :: memA 40 nb ws [] :: row vp2 62 3 (poS x).length (pkC (poS x)) :: shA g x.v (shP J x.b (x.b + 1) x.k) s' :: memA 94 m ws' lg' :: row vp 62 3 (poS x).length (pkC (poS x)) :: [blk W.heap.size (poO x (.slice pp x.c.ps.length cp) (.slice pl x.c.ls.length cl) ve (.slice pk x.l.length ck))]) w) => rShift_play J g rk nb K x.c a1 a2 x.c.ps.length c1 x.c.ls.length c2 x.v x.b (x.b + 1) x.k 1099511627776 (by decide) (by decide) hRm vp2 ws (poS x) (by rw [poS_len]; omega) (by omega) (HOk.out J) (HPq.out J) (QI.from9 (HOk.out J) (HQw.out J) (by decide) [] 0 rfl) hv2 (fun X Y w' h => Own.pksAt h.p2) h
  rw [Int.toNat_natCast, eP] at hPl
  rw [eP] at hPr0
  unfold RetPlay9 at hPr0
  simp only at hPr0
  have hPr := fun vp2 w hv2 h => Lib.hid (hPr0 vp2 w hv2 h)
  have hmost := hPL.most
  have HLN := Lib.hid (show ws'.length ≤ 10000 by omega)
  have HLG := Lib.hid (show lg'.length ≤ 59 by omega)
  clear hO hv eP hPr0 hRm hPL hlg hnK hbe hmost
  go_wp2_with fail
  refine hPl.out.mono ?_
  rintro e w9 ⟨rfl, hO⟩
  have hO : Own W NoF (shA g x.v (shP J x.b (x.b + 1) x.k) s' :: memA 94 m ws' lg' :: row vp 62 3 (poS x).length (pkC (poS x)) :: rsA rk x.c a1 x.c.ps.length c1 a2 x.c.ls.length c2 x.v (shP J x.b (x.b + 1) x.k) (s0Q (shP J x.b (x.b + 1) x.k).kd) :: memA 40 nb ws [] :: [blk W.heap.size (poO x (.slice pp x.c.ps.length cp) (.slice pl x.c.ls.length cl) ve (.slice pk x.l.length ck))]) w9 := hO
  obtain ⟨d0, d1, d2, d3, d4, d5, d6, d7, d8, d9, d10, d11, d12, d13⟩ := poCells hO.p5
  have HP := HPk _ _ hO
  clear hPl hO HPk
  go_wp2_with fail
  refine HP.out.mono ?_
  rintro e w10 ⟨vp2, rfl, hO⟩
  clear HP d0 d1 d2 d3 d4 d5 d6 d7 d8 d9 d10 d11 d12 d13
  have HPr := hPr vp2 _ (Own.pksAt hO) hO.p4.p5.swap
  clear hO hPr
  go_wp2_with fail
  refine HPr.out.mono ?_
  rintro e w11 ⟨rfl, hO⟩
  have hO : Own W NoF (rsA rk x.c a1 x.c.ps.length c1 a2 x.c.ls.length c2 x.v (shP J x.b (x.b + 1) x.k) s' :: memA 40 nb ws' lg' :: row vp2 62 3 (poS x).length (pkC (poS x)) :: shA g x.v (shP J x.b (x.b + 1) x.k) s' :: memA 94 m ws' lg' :: row vp 62 3 (poS x).length (pkC (poS x)) :: [blk W.heap.size (poO x (.slice pp x.c.ps.length cp) (.slice pl x.c.ls.length cl) ve (.slice pk x.l.length ck))]) w11 := hO
  obtain ⟨vw2, vl2, hM⟩ := hO.swap.mem
  obtain ⟨pu, cu, rfl⟩ := row_slice hM.swap
  obtain ⟨pg, cg, rfl⟩ := row_slice hM.p2
  have e0 : w11.cell? ⟨nb, 0, none⟩ = some (.slice pu ws'.length cu) := hM.cell (i := 0) rfl
  have e1 : w11.cell? ⟨nb, 1, none⟩ = some (.slice pg lg'.length cg) := hM.cell (i := 1) rfl
  have HO := Lib.hid hM.drew
  have qq := ans_refl (erQ (shP J x.b (x.b + 1) x.k) s') 0 false (anQ x.v (shP J x.b (x.b + 1) x.k) s')
  clear hM hO HPr hcast hcast2 hw1
  go_wp2_with fail
  try dsimp only [List.append]
  go_region_held3 (fun w' => w'.cell? ⟨nb, 0, none⟩ = some (.slice pu ws'.length cu) ∧ w'.cell? ⟨nb, 1, none⟩ = some (.slice pg lg'.length cg)) (go_keep)
    (first
      | (go_at_call 19; refine (shAns_any HO.out.p5).mono ?_; rintro e w12 ⟨rfl, hB⟩; have HO := Lib.hid (HO.out.below hB); have e0 := Stp.cell hB e0; have e1 := Stp.cell hB e1; clear hB; unfold ansV)
      | (go_at_call 20; refine (rsAns_any HO.out.p3).mono ?_; rintro e w13 ⟨rfl, hB⟩; have HO := Lib.hid (HO.out.below hB); have e0 := Stp.cell hB e0; have e1 := Stp.cell hB e1; clear hB; unfold ansV)
      | (go_at_call 22; refine (Log_b (by have := HLG.out; omega) HO.out.p6).mono ?_; rintro e w14 ⟨v12, rfl, hA⟩; have hB := hA.toBelow; have HO := Lib.hid (HO.out.below hB); have e0 := Stp.cell hB e0; have e1 := Stp.cell hB e1; clear hB; have H9 := Lib.hid (SameLog_yes hA.logAt HO.out.p2.logAt (by have := HLG.out; omega)); clear hA)
      | (go_at_call 21; refine H9.out.mono ?_; rintro e w15 ⟨rfl, hD⟩; have hB := hD.below; have HO := Lib.hid (HO.out.below hB); have e0 := Stp.cell hB e0; have e1 := Stp.cell hB e1; clear hB; clear hD)
      | (go_at_call 24; refine (Words_b (by have := HLN.out; omega) HO.out.p6).mono ?_; rintro e w16 ⟨v14, rfl, hA⟩; have hB := hA.toBelow; have HO := Lib.hid (HO.out.below hB); have e0 := Stp.cell hB e0; have e1 := Stp.cell hB e1; clear hB; have H11 := Lib.hid (SameInts_yes hA.intsAt HO.out.swap.intsAt (by have := HLN.out; omega)); clear hA)
      | (go_at_call 23; refine H11.out.mono ?_; rintro e w17 ⟨rfl, hD⟩; have hB := hD.below; have HO := Lib.hid (HO.out.below hB); have e0 := Stp.cell hB e0; have e1 := Stp.cell hB e1; clear hB; clear hD))
  all_goals
    go_wp2_with fail
    go_ret
    exact ⟨rfl, HO.out.toBelow⟩
theorem ShiftTells_calls (W : World) (x : Po) (vp vl ve vk : Value) (hwd : Wide x.c) (hwf : x.Wf) (hp : IntsAt W .i64 vp x.c.ps) (hl : IntsAt W .i64 vl x.c.ls) (he : IntsAt W .u32 ve x.ls) (hk : PksAt W vk x.l) (u : Int) (u0 : IntKind.u8.min ≤ u) (u1 : u ≤ IntKind.u8.max) (y : Int) (y0 : IntKind.u32.min ≤ y) (y1 : y ≤ IntKind.u32.max) (big : Bool) (q : Int) (q0 : IntKind.u8.min ≤ q) (q1 : q ≤ IntKind.u8.max) :
    Calls Try.prog 3 #[poV x vp vl ve vk, .int .u8 u, .int .u32 y, .bool big, .int .u8 q] W fun e w' => e = .returned (.bool true) ∧ Below W.heap.size W w' := by
  by_cases hg : GoodP x
  · exact ShiftTells_main W x ⟨hwd, hwf, hp, hl, he, hk⟩ hg u u0 u1 y y0 y1 big q q0 q1
  · exact ShiftTells_bad W x ⟨hwd, hwf, hp, hl, he, hk⟩ hg u u0 u1 y y0 y1 big q q0 q1
end Go.Proofs.Ytlkiadionpnijaa
