/- AddEnd. -/
import Derived.Test.YtkciaegbiglfmaaAddBase
namespace Go.Proofs.Ytkciaegbiglfmaa
open Go.ChangeShapes Go.WideShapes Go.ChangeAt Go.RowKit Go.Shelf
set_option linter.unusedVariables false
set_option maxRecDepth 100000
set_option maxHeartbeats 20000000 in
theorem AddEnd_main (W : World) (c : Cn) (pr pl : Option Addr) (cr cl : Nat) (hc : c.Wf) (hn1 : c.ver.length ≤ 20) (hn2 : c.val.length ≤ 20) (hr : IntsAt W .u32 (.slice pr c.ver.length cr) c.ver) (hv : IntsAt W .i32 (.slice pl c.val.length cl) c.val) (d t : Int) (d0 : -2147483648 ≤ d) (d1 : d ≤ 2147483647) (t0 : 0 ≤ t) (t1 : t ≤ 255) :
    Calls Try.prog 8 #[cnV c (.slice pr c.ver.length cr) (.slice pl c.val.length cl), .int .i32 d, .int .u8 t] W fun e w' => e = .returned (.bool true) ∧ Below W.heap.size W w' := by
  have Hh := Lib.hid (head_any ((Own.start W).new (cnO c (.slice pr c.ver.length cr) (.slice pl c.val.length cl))))
  have HSz := fun w => Lib.hid (Size_any c (.slice pr c.ver.length cr) (.slice pl c.val.length cl) hc w)
  have HWs := fun L w h => Lib.hid (lWords2 (L := L) (w := w) c _ _ hc hn1 hn2 hr hv h)
  have hb := c.bE hc
  have hs := c.sE
  have hg := c.gE hc
  have hok := wlay_ok c hc (d.tmod 1048576)
  have hgl := wlay_get c c.s (Nat.le_refl _) c.b
  rw [if_pos rfl] at hgl
  have hwl := wlay_len c c.s
  have hg1 : (wlay c c.s).getD (c.b + 1) 0 = 0 := by rw [wlay_get c c.s (Nat.le_refl _), if_neg (by omega), if_neg (by omega), if_neg (by omega)]
  have hg2 : (wlay c c.s).getD (c.b + 2) 0 = 0 := by rw [wlay_get c c.s (Nat.le_refl _), if_neg (by omega), if_neg (by omega), if_neg (by omega)]
  have hp := fun x h0 h1 => cP_ok c hc x h0 h1
  have hl0 := hc.l0
  have hl1 := hc.l1
  simp only [cP] at hok hp
  rw [hb.1, hs.1, show c.ga % 40 + 1 = c.g from rfl] at HSz
  simp only [cnV] at HSz HWs ⊢
  unfold cnO at Hh
  generalize c.b = b at *
  generalize c.g = g at *
  generalize wlay c c.s = ws at *
  generalize c.s = s at *
  obtain ⟨-, hb⟩ := hb
  obtain ⟨-, hs0, hs1⟩ := hs
  have Hok := Lib.hid hok
  have Hp := Lib.hid hp
  have Hgl := Lib.hid (show -2147483648 ≤ ws.getD b 0 ∧ ws.getD b 0 ≤ 2147483647 by omega)
  have Hg1 := Lib.hid hg1
  have Hg2 := Lib.hid hg2
  have hd1 : decide (20 < (c.ver.length : Int)) = false := by simp; omega
  have hd2 : decide (20 < (c.val.length : Int)) = false := by simp; omega
  clear hok hgl hl0 hl1 hg1 hg2 hp
  go_enter Try.func8, Try.ntmps8
  go_wp2_with fail
  refine Hh.out.mono ?_
  rintro e w1 ⟨rfl, hO⟩
  obtain ⟨c0, c1, c2, c3, c4, c5, c6⟩ := cnCells hO
  have HO := Lib.hid hO
  clear Hh hO
  go_wp2_with fail
  refine (HSz _).out.mono ?_
  rintro e w2 ⟨rfl, hB⟩
  have hO := HO.out.below hB
  clear c0 c1 c2 c3 c4 c5 c6 HO HSz
  obtain ⟨c0, c1, c2, c3, c4, c5, c6⟩ := cnCells hO
  have H1 := HWs _ _ hO
  clear HWs hO
  go_wp2_with fail
  refine H1.out.mono ?_
  rintro e w3 ⟨vw, rfl, hO⟩
  have H2 := Lib.hid (laid_any (by omega) (by omega) hO)
  clear c0 c1 c2 c3 c4 c5 c6 H1 hO
  go_wp2_with fail
  refine H2.out.mono ?_
  rintro e w4 ⟨m, rfl, hO⟩
  have hwN := hwl
  generalize hN : ws.length = N at hO hwl
  replace hwN := hN
  obtain ⟨P, hP⟩ : ∃ P : AP, P = ⟨b, s, g, d.tmod 1048576⟩ := ⟨_, rfl⟩
  have hdd : -1048576 ≤ d.tmod 1048576 ∧ d.tmod 1048576 ≤ 1048576 := by have := tm_bd d 1048576 (by omega); omega
  have hPok : P.Ok := by rw [hP]; exact Hp.out _ hdd.1 hdd.2
  have hPb : P.b = b := by rw [hP]
  have hPS : P.S = s := by rw [hP]
  have hPg : P.g = g := by rw [hP]
  have hPd : P.d = d.tmod 1048576 := by rw [hP]
  have hA := fun w => Lib.hid (amount_any d d0 d1 w)
  rw [← hP] at Hok
  clear hP
  generalize d.tmod 1048576 = dd at *
  have hsm := sumZ_small hPok Hok.out (by rw [hPb]; have := Hgl.out; omega) (by rw [hPb]; have := Hgl.out; omega)
  have hsb := sumZ_bd hPok Hok.out
  rw [hPb] at hsb
  have H3 := addSum_any P s hPS hs0 hs1 hPok.b (by rw [hPb]; omega) (by omega) Hok.out.wf hO
  rw [hPb, hsm] at H3
  have hgl := Hgl.out
  have Z0 : -5000000000 ≤ sumZ P ws := by omega
  have Z1 : sumZ P ws ≤ 5000000000 := by omega
  clear hsm hsb hgl H2 hO
  have H3' := Lib.hid H3
  go_wp2_with fail
  refine H3'.out.mono ?_
  rintro e w5 ⟨rfl, hO⟩
  clear H3 H3'
  have HN := addNew_any P 5 (by decide) (by decide) hO
  rw [hPb, hPS, hPg, hPd] at HN
  have HN' := Lib.hid HN
  have hP0 := Hp.out 0 (by decide) (by decide)
  clear HN hO
  go_wp2_with fail
  refine (hA _).out.mono ?_
  rintro e w6 ⟨rfl, rfl⟩
  go_wp2_with fail
  refine HN'.out.mono ?_
  rintro e w6 ⟨g1, rfl, hO⟩
  have H4 := Lib.hid (Add_play g1 m P _ (s0A 5) ws [] [] 50 (by decide) (pksAt_nil _) (by decide) hPok (s0_ok _ (by decide) (by decide)) Hok.out (by decide) (fun _ _ _ h => h) hO)
  have hx := bg_bd 5 (by decide) (by decide)
  obtain ⟨n, s', ws', lg', e1, h9, hlg, A⟩ := alone_any hPok Hok.out g1 (bg 5) hx.1 hx.2 50 (by omega) []
  have e2 : playF (addM g1 P) [] (50 : Int).toNat 0 (s0A 5) ws [] = (n, true, s', ws', lg') := e1
  rw [e2] at H4
  have a2 : ∃ k : Int, sumZ P ws' = sumZ P ws + dd + k * 18446744073709551616 := by
    obtain ⟨k, hk⟩ := A.sum; exact ⟨k, by rw [hk, hPd]⟩
  have HA := Lib.hid A.ok
  have hlen' : ws'.length = b + 4 + s + 3 := by rw [A.len, hN]; exact hwl
  have hn6 : n ≤ 6 := by have := A.n36; omega
  rw [List.length_nil, Nat.zero_add] at hlg
  generalize sumZ P ws = S0 at *
  have HA2 := Lib.hid a2
  have Hlg := Lib.hid hlg
  clear e1 e2 A HN' hO a2 hlg
  go_wp2_with fail
  refine H4.out.mono ?_
  rintro e w7 ⟨rfl, hO⟩
  simp only [addM] at hO
  rw [stV_nine h9] at hO
  have H5 := Lib.hid (Log_any (by have := Hlg.out; omega) hO.swap)
  clear H4 hO h9
  go_wp2_with fail
  refine H5.out.mono ?_
  rintro e w8 ⟨v8, rfl, hO⟩
  obtain ⟨p8, c8, rfl⟩ := row_slice hO
  have HO := Lib.hid (show Own W NoF [mchA g1 .nilFunc, memA 94 m ws' lg', row vw 3 1 N (intC ws), blk W.heap.size (.cells #[.int .u8 c.bs, .int .u8 c.st, .int .u16 c.ga, .int .i32 c.gl, .int .u8 c.lv, .slice pr c.ver.length cr, .slice pl c.val.length cl] 26 (0, 0))] w8 from hO.drop.swap)
  clear H5 hO
  rw [Hlg.out]
  obtain ⟨q, hq⟩ : ∃ q : Nat, t % 10 = (q : Int) := ⟨(t % 10).toNat, by omega⟩
  go_wp2_with fail
  go_loopw [18] (fun v18 wr => ∃ k : Nat, k ≤ q ∧ v18 = .int .i64 k ∧ w8 = wr) (fun v18 _ => q - (intOf v18).toNat)
  case atStart => exact ⟨0, Nat.zero_le _, rfl, rfl⟩
  case round =>
    obtain ⟨k, hk, rfl, rfl⟩ := hrel
    by_cases hlt : k < q
    · have hlt2 : (k : Int) < t % 10 := by omega
      go_wp2_with fail
      refine (Step_end g1 _ HO.out).mono ?_
      rintro e w9 ⟨rfl, rfl⟩
      go_wp2_with fail
      go_roundw
      case rel => exact ⟨k + 1, by omega, by go_num, trivial⟩
      case measure => simp [intOf]; omega
    · have hkq : k = q := by omega
      have hd9 : decide ((k : Int) < t % 10) = false := by simp; omega
      have HN2 := Lib.hid (addNew_any ⟨b, s, g, 0⟩ 6 (by decide) (by decide) HO.out)
      clear hlt hkq hq
      go_wp2_with fail
      refine HN2.out.mono ?_
      rintro e w9 ⟨g2, rfl, hO⟩
      have hA0 : WOk ⟨b, s, g, 0⟩ ws' := HA.out.of hPb hPS hPg
      have H6 := Lib.hid (Add_play g2 m ⟨b, s, g, 0⟩ _ (s0A 6) ws' lg' [] 50 (by decide) (pksAt_nil _) (by decide) hP0 (s0_ok _ (by decide) (by decide)) hA0 (by have := Hlg.out; omega) (fun _ _ _ h => h) (hO.under fun _ _ h => h.swap))
      have hx6 := bg_bd 6 (by decide) (by decide)
      obtain ⟨n2, s2, ws2, lg2, e3, h92, hlg2, A2⟩ := alone_any hP0 hA0 g2 (bg 6) hx6.1 hx6.2 50 (by omega) lg'
      have e4 : playF (addM g2 ⟨b, s, g, 0⟩) [] (50 : Int).toNat 0 (s0A 6) ws' lg' = (n2, true, s2, ws2, lg2) := e3
      rw [e4] at H6
      obtain rfl : n2 = 3 := A2.zero rfl
      have b2 : wrap64 (sumZ P ws2) = S0 + dd := by
        obtain ⟨k1, hk1⟩ := A2.sum
        obtain ⟨k2, hk2⟩ := HA2.out
        rw [sumZ_of ws2 hPb hPS (q := ⟨b, s, g, 0⟩), hk1, ← sumZ_of ws' hPb hPS (q := ⟨b, s, g, 0⟩), hk2]; simp only; unfold wrap64; omega
      have HAA := Lib.hid (WOk.of A2.ok hPb.symm hPS.symm hPg.symm)
      have hlen2 : ws2.length = b + 4 + s + 3 := by rw [A2.len]; exact hlen'
      have Hlg2 := Lib.hid (show lg2.length = n + 3 by rw [hlg2, Hlg.out])
      clear e3 e4 A2 hO HN2 hlg2
      go_wp2_with fail
      refine H6.out.mono ?_
      rintro e w10 ⟨rfl, hO⟩
      simp only [addM] at hO
      have HSum := fun w L (h : Own W NoF (memA 94 m ws2 lg2 :: L) w) => Lib.hid (addSum_any P s hPS hs0 hs1 hPok.b (by rw [hPb]; omega) (by omega) HAA.out.wf h)
      rw [hPb, b2] at HSum
      have eq := ans_eq
      have hM := hO.swap
      clear H6 hO hd9
      have HL := Lib.hid (Log_any (by have := Hlg2.out; omega) hM)
      clear hM
      go_wp2_with fail
      refine HL.out.mono ?_
      rintro e w11 ⟨v11, rfl, hO⟩
      obtain ⟨p11, c11, rfl⟩ := row_slice hO
      have HS := HSum _ _ hO.drop
      rw [Hlg2.out]
      clear HL hO HSum
      go_wp2_with fail
      refine HS.out.mono ?_
      rintro e w12 ⟨rfl, hO⟩
      have HO12 := Lib.hid (show Stp W _ from hO.toBelow)
      clear HS hO
      go_wp2_with fail
      refine (hA _).out.mono ?_
      rintro e w13 ⟨rfl, rfl⟩
      go_wp2_with fail
      refine (addAns_any g1 _).mono ?_
      rintro e w13 ⟨rfl, hB13⟩
      have HO13 := Lib.hid (HO12.out.trans hB13)
      unfold ansV
      clear HO12 hB13
      go_wp2_with fail
      refine (addAns_any g2 _).mono ?_
      rintro e w14 ⟨rfl, hB14⟩
      have HO14 := Lib.hid (HO13.out.trans hB14)
      unfold ansV
      clear HO13 hB14
      go_wp2_with fail
      go_ret
      exact ⟨rfl, HO14.out⟩
theorem AddEnd_big1 (W : World) (c : Cn) (pr pl : Option Addr) (cr cl : Nat) (hc : c.Wf) (hm1 : c.ver.length ≤ 9223372036854775807) (hm2 : c.val.length ≤ 9223372036854775807) (hr : IntsAt W .u32 (.slice pr c.ver.length cr) c.ver) (hv : IntsAt W .i32 (.slice pl c.val.length cl) c.val) (d t : Int) (d0 : -2147483648 ≤ d) (d1 : d ≤ 2147483647) (t0 : 0 ≤ t) (t1 : t ≤ 255) (h : 20 < c.ver.length) :
    Calls Try.prog 8 #[cnV c (.slice pr c.ver.length cr) (.slice pl c.val.length cl), .int .i32 d, .int .u8 t] W fun e w' => e = .returned (.bool true) ∧ Below W.heap.size W w' := by
  have Hh := Lib.hid (head_any ((Own.start W).new (cnO c (.slice pr c.ver.length cr) (.slice pl c.val.length cl))))
  unfold cnV
  have hd1 : decide (20 < (c.ver.length : Int)) = true := by simp; omega
  go_enter Try.func8, Try.ntmps8
  go_wp2_with fail
  refine Hh.out.mono ?_
  rintro e w1 ⟨rfl, hO⟩
  obtain ⟨c0, c1, c2, c3, c4, c5, c6⟩ := cnCells hO
  clear Hh
  go_wp2_with fail
  go_ret
  exact ⟨rfl, hO.toBelow⟩
theorem AddEnd_big2 (W : World) (c : Cn) (pr pl : Option Addr) (cr cl : Nat) (hc : c.Wf) (hm1 : c.ver.length ≤ 9223372036854775807) (hm2 : c.val.length ≤ 9223372036854775807) (hr : IntsAt W .u32 (.slice pr c.ver.length cr) c.ver) (hv : IntsAt W .i32 (.slice pl c.val.length cl) c.val) (d t : Int) (d0 : -2147483648 ≤ d) (d1 : d ≤ 2147483647) (t0 : 0 ≤ t) (t1 : t ≤ 255) (h1 : c.ver.length ≤ 20) (h : 20 < c.val.length) :
    Calls Try.prog 8 #[cnV c (.slice pr c.ver.length cr) (.slice pl c.val.length cl), .int .i32 d, .int .u8 t] W fun e w' => e = .returned (.bool true) ∧ Below W.heap.size W w' := by
  have Hh := Lib.hid (head_any ((Own.start W).new (cnO c (.slice pr c.ver.length cr) (.slice pl c.val.length cl))))
  unfold cnV
  have hd1 : decide (20 < (c.ver.length : Int)) = false := by simp; omega
  have hd2 : decide (20 < (c.val.length : Int)) = true := by simp; omega
  go_enter Try.func8, Try.ntmps8
  go_wp2_with fail
  refine Hh.out.mono ?_
  rintro e w1 ⟨rfl, hO⟩
  obtain ⟨c0, c1, c2, c3, c4, c5, c6⟩ := cnCells hO
  clear Hh
  go_wp2_with fail
  go_ret
  exact ⟨rfl, hO.toBelow⟩
theorem AddEnd_calls (W : World) (c : Cn) (vr vl : Value) (hc : c.Wf) (hm1 : c.ver.length ≤ maxLen) (hm2 : c.val.length ≤ maxLen) (hr : IntsAt W .u32 vr c.ver) (hv : IntsAt W .i32 vl c.val) (d : Int) (d0 : IntKind.i32.min ≤ d) (d1 : d ≤ IntKind.i32.max) (t : Int) (t0 : IntKind.u8.min ≤ t) (t1 : t ≤ IntKind.u8.max) :
    Calls Try.prog 8 #[cnV c vr vl, .int .i32 d, .int .u8 t] W fun e w' => e = .returned (.bool true) ∧ Below W.heap.size W w' := by
  obtain ⟨pr, cr, rfl⟩ := hr.slice
  obtain ⟨pl, cl, rfl⟩ := hv.slice
  unfold maxLen at hm1 hm2
  by_cases h1 : c.ver.length ≤ 20
  · by_cases h2 : c.val.length ≤ 20
    · exact AddEnd_main W c pr pl cr cl hc h1 h2 hr hv d t d0 d1 t0 t1
    · exact AddEnd_big2 W c pr pl cr cl hc (by omega) (by omega) hr hv d t d0 d1 t0 t1 h1 (by omega)
  · exact AddEnd_big1 W c pr pl cr cl hc (by omega) (by omega) hr hv d t d0 d1 t0 t1 (by omega)
end Go.Proofs.Ytkciaegbiglfmaa
