/- AddTells. -/
import Derived.Test.YtkciaegbiglfmaaAddBase
import Derived.Test.YtkciaegbiglfmaaAddPoked
import Derived.Test.YtkciaegbiglfmaaMemBelow
import Derived.Test.YtkciaegbiglfmaaAddRef2
namespace Go.Proofs.Ytkciaegbiglfmaa
open Go.ChangeShapes Go.WideShapes Go.ChangeAt Go.RowKit Go.Shelf
set_option linter.unusedVariables false
set_option maxRecDepth 100000
set_option maxHeartbeats 20000000 in
theorem AddTells_main (W : World) (c : Cn) (pr pl : Option Addr) (cr cl : Nat) (hc : c.Wf) (hn1 : c.ver.length ≤ 20) (hn2 : c.val.length ≤ 20) (hr : IntsAt W .u32 (.slice pr c.ver.length cr) c.ver) (hv : IntsAt W .i32 (.slice pl c.val.length cl) c.val) (d t : Int) (l : List Pk) (pv : Option Addr) (cv : Nat) (mo : Int) (d0 : -2147483648 ≤ d) (d1 : d ≤ 2147483647) (t0 : 0 ≤ t) (t1 : t ≤ 65535) (m0 : 0 ≤ mo) (m1 : mo ≤ 255) (hlx : ∀ p ∈ l, I64 p.x) (hlv : PksAt W (.slice pv l.length cv) l) (hz : l.length ≤ 40) :
    Calls Try.prog 3 #[cnV c (.slice pr c.ver.length cr) (.slice pl c.val.length cl), .int .i32 d, .int .u16 t, .slice pv l.length cv, .int .u8 mo] W fun e w' => e = .returned (.bool true) ∧ Below W.heap.size W w' := by
  have hd3 : decide (40 < (l.length : Int)) = false := by simp; omega
  have hd4 : decide (40 < l.length) = false := by simp; omega
  have HPk := fun L w h => Lib.hid (Poked_any (L := L) (w := w) c (.slice pr c.ver.length cr) (.slice pl c.val.length cl) (.slice pv l.length cv) hc l (by omega) hlx hlv h)
  have HPo := Lib.hid (show ∀ r ∈ pokedL c l, PkOk ⟨c.b, c.s, c.g, 0⟩ r from pkL_ok (p := ⟨c.b, c.s, c.g, 0⟩) (b := c.b) (s := c.s) (g := c.g) (lv := c.lve) rfl rfl rfl (c.gE hc).1 (by have := (c.gE hc).2; omega) ⟨c.live8.1, by have := c.live8.2; rw [c.sE.1] at this; exact this⟩ l hlx)
  have HPn := Lib.hid (show (pokedL c l).length ≤ 40 by have := pkL_len (b := c.b) (s := c.s) (g := c.g) (lv := c.lve) l; unfold pokedL; omega)
  have Hh := Lib.hid (head_any ((Own.start W).new (cnO c (.slice pr c.ver.length cr) (.slice pl c.val.length cl))))
  have HSz := fun w => Lib.hid (Size_any c (.slice pr c.ver.length cr) (.slice pl c.val.length cl) hc w)
  have HWs := fun L w h => Lib.hid (lWords2 (L := L) (w := w) c _ _ hc hn1 hn2 hr hv h)
  have hb := c.bE hc
  have hs := c.sE
  have hg := c.gE hc
  have hok := wlay_ok c hc (0)
  have hgl := wlay_get c c.s (Nat.le_refl _) c.b
  rw [if_pos rfl] at hgl
  have hwl := wlay_len c c.s
  have hg1 : (wlay c c.s).getD (c.b + 1) 0 = 0 := by rw [wlay_get c c.s (Nat.le_refl _), if_neg (by omega), if_neg (by omega), if_neg (by omega)]
  have hg2 : (wlay c c.s).getD (c.b + 2) 0 = 0 := by rw [wlay_get c c.s (Nat.le_refl _), if_neg (by omega), if_neg (by omega), if_neg (by omega)]
  have hp := fun x h0 h1 => cP_ok c hc x h0 h1
  have hl0 := hc.l0
  have hl1 := hc.l1
  simp only [cP] at hok hp
  rw [hb.1, hs.1, show c.ga % 40 + 1 = c.g from rfl] at HSz
  simp only [cnV] at HSz HWs HPk ⊢
  unfold cnO at Hh
  generalize pokedL c l = R at *
  generalize c.b = b at *
  generalize c.g = g at *
  generalize wlay c c.s = ws at *
  generalize c.s = s at *
  obtain ⟨-, hb⟩ := hb
  obtain ⟨-, hs0, hs1⟩ := hs
  have Hok := Lib.hid hok
  have Hp := Lib.hid hp
  have Hgl := Lib.hid (show -2147483648 ≤ ws.getD b 0 ∧ ws.getD b 0 ≤ 2147483647 by omega)
  have Hg1 := Lib.hid hg1
  have Hg2 := Lib.hid hg2
  have hd1 : decide (20 < (c.ver.length : Int)) = false := by simp; omega
  have hd2 : decide (20 < (c.val.length : Int)) = false := by simp; omega
  clear hok hgl hl0 hl1 hg1 hg2 hp
  go_enter Try.func3, Try.ntmps3
  go_wp2_with fail
  refine Hh.out.mono ?_
  rintro e w1 ⟨rfl, hO⟩
  obtain ⟨c0, c1, c2, c3, c4, c5, c6⟩ := cnCells hO
  have HO := Lib.hid hO
  clear Hh hO
  go_wp2_with fail
  refine (HSz _).out.mono ?_
  rintro e w2 ⟨rfl, hB⟩
  have hO := HO.out.below hB
  clear c0 c1 c2 c3 c4 c5 c6 HO HSz
  obtain ⟨c0, c1, c2, c3, c4, c5, c6⟩ := cnCells hO
  have H1 := HWs _ _ hO
  clear HWs hO
  go_wp2_with fail
  refine H1.out.mono ?_
  rintro e w3 ⟨vw, rfl, hO⟩
  clear c0 c1 c2 c3 c4 c5 c6 H1
  obtain ⟨c0, c1, c2, c3, c4, c5, c6⟩ := cnCells hO.swap
  have H3 := HPk _ _ hO
  clear hO HPk
  go_wp2_with fail
  refine H3.out.mono ?_
  rintro e w4 ⟨vp, rfl, hO⟩
  obtain ⟨pr3, cr3, rfl⟩ := row_slice hO
  have hO2 : Own W NoF [row vw 3 1 ws.length (intC ws), row (.slice pr3 R.length cr3) 61 3 R.length (pkC R)] w4 := (hO.swap.under fun _ _ h => h.under fun _ _ h => h.drop)
  have H2 := Lib.hid (laid_any (by omega) (by omega) hO2)
  clear c0 c1 c2 c3 c4 c5 c6 H3 hO hO2
  go_wp2_with fail
  refine H2.out.mono ?_
  rintro e w5 ⟨m, rfl, hO⟩
  have hdd : -1048576 ≤ d.tmod 1048576 ∧ d.tmod 1048576 ≤ 1048576 := by have := tm_bd d 1048576 (by omega); omega
  have P1 := Lib.hid (Hp.out _ hdd.1 hdd.2)
  have hA := fun w => Lib.hid (amount_any d d0 d1 w)
  generalize d.tmod 1048576 = dd at *
  have W0 : WOk ⟨b, s, g, dd⟩ ws := Hok.out.of rfl rfl rfl
  have HW0 := Lib.hid W0
  have HS0 := Lib.hid (s0_ok (p := ⟨b, s, g, dd⟩) (t % 1001) (by omega) (by omega))
  have HN := Lib.hid (addNew_any ⟨b, s, g, dd⟩ (t % 1001) (by omega) (by omega) hO)
  clear hO H2 W0
  go_wp2_with fail
  refine (hA _).out.mono ?_
  rintro e w6 ⟨rfl, rfl⟩
  go_wp2_with fail
  refine HN.out.mono ?_
  rintro e w6 ⟨g1, rfl, hO⟩
  obtain ⟨pw, cw, rfl⟩ := row_slice hO.p2
  have hO : Own W NoF [row (.slice pw ws.length cw) 3 1 ws.length (intC ws), mchA g1 (stV ⟨b, s, g, dd⟩ (s0A (t % 1001))), memA 94 m ws [], row (.slice pr3 R.length cr3) 61 3 R.length (pkC R)] w6 := hO.p2
  rw [hwl] at hO
  have hB := (hO.rowNil (e := 91) (size := 5)).new (.cells #[.slice pw (b + 4 + s + 3) cw, .slice none 0 0] 42)
  have hM : Own W NoF (memA 42 w6.heap.size ws [] :: [mchA g1 (stV ⟨b, s, g, dd⟩ (s0A (t % 1001))), memA 94 m ws [], row (.slice pr3 R.length cr3) 61 3 R.length (pkC R)]) _ := Own.toMem' (ws := ws) (l := []) (hB.under fun _ _ h => h.swap) hwl.symm rfl rfl rfl
  have HM := Lib.hid hM
  have hwl2 := hwl
  clear HN hO hB hM
  go_wp2_with fail
  refine (hA _).out.mono ?_
  rintro e w7 ⟨rfl, rfl⟩
  have HR := Lib.hid (rNewM_any ⟨b, s, g, dd⟩ (t % 1001) (by omega) (by omega) HM.out)
  clear HM
  generalize w6.heap.size = n at HR ⊢
  go_wp2_with fail
  refine HR.out.mono ?_
  rintro e w7 ⟨g2, rfl, hO⟩
  have hO : Own W NoF [mchA g1 (stV ⟨b, s, g, dd⟩ (s0A (t % 1001))), memA 94 m ws [], rmA g2 ⟨b, s, g, dd⟩ (s0A (t % 1001)), memA 42 n ws [], row (.slice pr3 R.length cr3) 61 3 R.length (pkC R)] w7 := (hO.p3).p3
  obtain ⟨N, hN⟩ : ∃ N : Nat, mo % 60 = (N : Int) := ⟨(mo % 60).toNat, by omega⟩
  have hN60 : N < 60 := by omega
  have hpk : ∀ q ∈ R, PkOk ⟨b, s, g, dd⟩ q := fun q hq => let h := HPo.out q hq; ⟨h.w0, h.w1, h.x, h.live, h.gate⟩
  have hpv : PksAt w7 (.slice pr3 R.length cr3) R := hO.p4.pksAt
  have H4 := Add_play g1 m ⟨b, s, g, dd⟩ (.slice pr3 R.length cr3) (s0A (t % 1001)) ws [] R (mo % 60) (by have := HPn.out; omega) hpv (by omega) P1.out HS0.out HW0.out (by simp) (fun tt ws _ h => pokesAt_ok P1.out hpk tt h) hO
  rw [show (mo % 60).toNat = N by omega] at H4
  have hinv := play_inv (l := R) g1 P1.out (fun tt ws h => pokesAt_ok P1.out hpk tt h) N 0 (s0A (t % 1001)) ws [] HW0.out HS0.out
  have hcg := playF_congr (M := refM g2 ⟨b, s, g, dd⟩) (M' := addM g1 ⟨b, s, g, dd⟩) (fun _ _ _ => rfl) R N 0 (s0A (t % 1001)) ws []
  have HPl := fun L w h => Lib.hid (rPlay_any (w0 := W) (F0 := NoF) (L := L) (w := w) (T := 42) g2 n ⟨b, s, g, dd⟩ (.slice pr3 R.length cr3) (s0A (t % 1001)) ws [] R N (by have := HPn.out; omega) (by omega) P1.out HS0.out HW0.out (by simp) hpk h)
  rw [hcg] at HPl
  rcases hpf : playF (addM g1 ⟨b, s, g, dd⟩) R N 0 (s0A (t % 1001)) ws [] with ⟨N1, B1, s1, ws1, lg1⟩
  rw [hpf] at H4 hinv HPl
  simp only at hinv HPl
  obtain ⟨hW1, hL1, hG1⟩ := hinv
  have HG1 := Lib.hid (show lg1.length ≤ 60 by simp at hG1; omega)
  have HW1 := Lib.hid hW1
  have HL1 := Lib.hid (show ws1.length = b + 4 + s + 3 by rw [hL1]; exact hwl2)
  have H4' := Lib.hid H4
  rw [← hN] at HPl
  clear hpf hcg H4 hW1 hL1 hG1 hpv hO HR HW0 HS0 hN
  go_wp2_with fail
  refine H4'.out.mono ?_
  rintro e w8 ⟨rfl, hO⟩
  simp only [addM] at hO
  have hO : Own W NoF [rmA g2 ⟨b, s, g, dd⟩ (s0A (t % 1001)), memA 42 n ws [], row (.slice pr3 R.length cr3) 61 3 R.length (pkC R), mchA g1 (stV ⟨b, s, g, dd⟩ s1), memA 94 m ws1 lg1] w8 := hO.p4.p4.p4
  have H5 := HPl _ _ hO
  clear H4' HPl hO
  go_wp2_with fail
  refine H5.out.mono ?_
  rintro e w9 ⟨rfl, hO⟩
  obtain ⟨vw, vl, hM⟩ := (hO.drop).mem
  obtain ⟨pu, cu, rfl⟩ := row_slice hM.swap
  obtain ⟨pg, cg, rfl⟩ := row_slice hM.p2
  have e0 : w9.cell? ⟨n, 0, none⟩ = some (.slice pu ws1.length cu) := hM.cell (i := 0) rfl
  have e1 : w9.cell? ⟨n, 1, none⟩ = some (.slice pg lg1.length cg) := hM.cell (i := 1) rfl
  have HO := Lib.hid hM
  have H6 := Lib.hid (Log_b (by have := HG1.out; omega) HO.out.p5.drew)
  have HSa := fun w L (h : Own W NoF (memA 94 m ws1 lg1 :: L) w) => Lib.hid (addSum_b ⟨b, s, g, dd⟩ s rfl hs0 hs1 P1.out.b (by have := HL1.out; simp only; omega) (by have := HL1.out; omega) HW1.out.wf h)
  have HSr := fun w v (h : IntsAt w .i64 v ws1) => Lib.hid (rSumM_any ⟨b, s, g, dd⟩ s rfl hs0 hs1 P1.out.b (by have := HL1.out; simp only; omega) (by have := HL1.out; omega) HW1.out.wf h)
  simp only at HSa HSr
  generalize wrap64 (sumZ ⟨b, s, g, dd⟩ ws1) = sm at HSa HSr
  have eq := ans_eq
  clear hO hM H5 hwl hwl2
  go_wp2_with fail
  try dsimp only [List.append]
  go_region_held3 (fun w' => w'.cell? ⟨n, 0, none⟩ = some (.slice pu ws1.length cu) ∧ w'.cell? ⟨n, 1, none⟩ = some (.slice pg lg1.length cg)) (go_keep)
    (first
      | (go_at_call 20; refine H6.out.mono ?_; rintro e w10 ⟨v10, rfl, hA⟩; have HO10 := Lib.hid (HO.out.drew.below hA.toBelow); have H7 := Lib.hid (SameLog_yes hA.logAt HO10.out.p2.logAt (by have := HG1.out; omega)); have a0 := Stp.cell hA.toBelow e0; have a1 := Stp.cell hA.toBelow e1; clear hA)
      | (go_at_call 19; refine H7.out.mono ?_; rintro e w11 ⟨rfl, hD⟩; have HO11 := Lib.hid (HO10.out.below hD.below); have H8 := Lib.hid (Words_b (by have := HL1.out; omega) HO11.out.p5); have b0 := hD.cell a0; have b1 := hD.cell a1; clear hD)
      | (go_at_call 22; refine H8.out.mono ?_; rintro e w12 ⟨v12, rfl, hA⟩; have HO12 := Lib.hid (HO11.out.below hA.toBelow); have H9 := Lib.hid (SameInts_yes hA.intsAt HO12.out.swap.intsAt (by have := HL1.out; omega)); have d0 := Stp.cell hA.toBelow b0; have d1 := Stp.cell hA.toBelow b1; clear hA)
      | (go_at_call 21; refine H9.out.mono ?_; rintro e w13 ⟨rfl, hD⟩; have HO13 := Lib.hid (HO12.out.below hD.below); have H10 := HSa _ _ HO13.out.p5; have f0 := hD.cell d0; have f1 := hD.cell d1; clear hD)
      | (go_at_call 23; refine H10.out.mono ?_; rintro e w14 ⟨rfl, hB⟩; have HO14 := Lib.hid (HO13.out.below hB); have H11 := HSr _ _ HO14.out.swap.intsAt; have k0 := Stp.cell hB f0; have k1 := Stp.cell hB f1; clear hB)
      | (go_at_call 24; refine H11.out.mono ?_; rintro e w15 ⟨rfl, rfl⟩)
      | (go_at_call 25; refine (addAns_any g1 _).mono ?_; rintro e w16 ⟨rfl, hB⟩; have HO16 := Lib.hid (HO14.out.below hB); have l0 := Stp.cell hB k0; have l1 := Stp.cell hB k1; clear hB; unfold ansV))
  all_goals
    go_wp2_with fail
    go_ret
    exact ⟨rfl, HO16.out.toBelow⟩
theorem AddTells_big0 (W : World) (c : Cn) (pr pl : Option Addr) (cr cl : Nat) (hc : c.Wf) (hm1 : c.ver.length ≤ 9223372036854775807) (hm2 : c.val.length ≤ 9223372036854775807) (hr : IntsAt W .u32 (.slice pr c.ver.length cr) c.ver) (hv : IntsAt W .i32 (.slice pl c.val.length cl) c.val) (d t : Int) (l : List Pk) (pv : Option Addr) (cv : Nat) (mo : Int) (d0 : -2147483648 ≤ d) (d1 : d ≤ 2147483647) (t0 : 0 ≤ t) (t1 : t ≤ 65535) (m0 : 0 ≤ mo) (m1 : mo ≤ 255) (hlx : ∀ p ∈ l, I64 p.x) (hlv : PksAt W (.slice pv l.length cv) l) (hz : l.length ≤ 9223372036854775807) (h : 40 < l.length) :
    Calls Try.prog 3 #[cnV c (.slice pr c.ver.length cr) (.slice pl c.val.length cl), .int .i32 d, .int .u16 t, .slice pv l.length cv, .int .u8 mo] W fun e w' => e = .returned (.bool true) ∧ Below W.heap.size W w' := by
  have Hh := Lib.hid (head_any ((Own.start W).new (cnO c (.slice pr c.ver.length cr) (.slice pl c.val.length cl))))
  unfold cnV
  have hd3 : decide (40 < (l.length : Int)) = true := by simp; omega
  go_enter Try.func3, Try.ntmps3
  go_wp2_with fail
  refine Hh.out.mono ?_
  rintro e w1 ⟨rfl, hO⟩
  obtain ⟨c0, c1, c2, c3, c4, c5, c6⟩ := cnCells hO
  clear Hh
  go_wp2_with fail
  go_ret
  exact ⟨rfl, hO.toBelow⟩
theorem AddTells_big1 (W : World) (c : Cn) (pr pl : Option Addr) (cr cl : Nat) (hc : c.Wf) (hm1 : c.ver.length ≤ 9223372036854775807) (hm2 : c.val.length ≤ 9223372036854775807) (hr : IntsAt W .u32 (.slice pr c.ver.length cr) c.ver) (hv : IntsAt W .i32 (.slice pl c.val.length cl) c.val) (d t : Int) (l : List Pk) (pv : Option Addr) (cv : Nat) (mo : Int) (d0 : -2147483648 ≤ d) (d1 : d ≤ 2147483647) (t0 : 0 ≤ t) (t1 : t ≤ 65535) (m0 : 0 ≤ mo) (m1 : mo ≤ 255) (hlx : ∀ p ∈ l, I64 p.x) (hlv : PksAt W (.slice pv l.length cv) l) (hz : l.length ≤ 9223372036854775807) (h0 : l.length ≤ 40) (h : 20 < c.ver.length) :
    Calls Try.prog 3 #[cnV c (.slice pr c.ver.length cr) (.slice pl c.val.length cl), .int .i32 d, .int .u16 t, .slice pv l.length cv, .int .u8 mo] W fun e w' => e = .returned (.bool true) ∧ Below W.heap.size W w' := by
  have Hh := Lib.hid (head_any ((Own.start W).new (cnO c (.slice pr c.ver.length cr) (.slice pl c.val.length cl))))
  unfold cnV
  have hd3 : decide (40 < (l.length : Int)) = false := by simp; omega
  have hd1 : decide (20 < (c.ver.length : Int)) = true := by simp; omega
  go_enter Try.func3, Try.ntmps3
  go_wp2_with fail
  refine Hh.out.mono ?_
  rintro e w1 ⟨rfl, hO⟩
  obtain ⟨c0, c1, c2, c3, c4, c5, c6⟩ := cnCells hO
  clear Hh
  go_wp2_with fail
  go_ret
  exact ⟨rfl, hO.toBelow⟩
theorem AddTells_big2 (W : World) (c : Cn) (pr pl : Option Addr) (cr cl : Nat) (hc : c.Wf) (hm1 : c.ver.length ≤ 9223372036854775807) (hm2 : c.val.length ≤ 9223372036854775807) (hr : IntsAt W .u32 (.slice pr c.ver.length cr) c.ver) (hv : IntsAt W .i32 (.slice pl c.val.length cl) c.val) (d t : Int) (l : List Pk) (pv : Option Addr) (cv : Nat) (mo : Int) (d0 : -2147483648 ≤ d) (d1 : d ≤ 2147483647) (t0 : 0 ≤ t) (t1 : t ≤ 65535) (m0 : 0 ≤ mo) (m1 : mo ≤ 255) (hlx : ∀ p ∈ l, I64 p.x) (hlv : PksAt W (.slice pv l.length cv) l) (hz : l.length ≤ 9223372036854775807) (h0 : l.length ≤ 40) (h2 : c.ver.length ≤ 20) (h : 20 < c.val.length) :
    Calls Try.prog 3 #[cnV c (.slice pr c.ver.length cr) (.slice pl c.val.length cl), .int .i32 d, .int .u16 t, .slice pv l.length cv, .int .u8 mo] W fun e w' => e = .returned (.bool true) ∧ Below W.heap.size W w' := by
  have Hh := Lib.hid (head_any ((Own.start W).new (cnO c (.slice pr c.ver.length cr) (.slice pl c.val.length cl))))
  unfold cnV
  have hd3 : decide (40 < (l.length : Int)) = false := by simp; omega
  have hd1 : decide (20 < (c.ver.length : Int)) = false := by simp; omega
  have hd2 : decide (20 < (c.val.length : Int)) = true := by simp; omega
  go_enter Try.func3, Try.ntmps3
  go_wp2_with fail
  refine Hh.out.mono ?_
  rintro e w1 ⟨rfl, hO⟩
  obtain ⟨c0, c1, c2, c3, c4, c5, c6⟩ := cnCells hO
  clear Hh
  go_wp2_with fail
  go_ret
  exact ⟨rfl, hO.toBelow⟩
theorem AddTells_calls (W : World) (c : Cn) (vr vl : Value) (hc : c.Wf) (hm1 : c.ver.length ≤ maxLen) (hm2 : c.val.length ≤ maxLen) (hr : IntsAt W .u32 vr c.ver) (hv : IntsAt W .i32 vl c.val)
    (d : Int) (d0 : IntKind.i32.min ≤ d) (d1 : d ≤ IntKind.i32.max) (t : Int) (t0 : IntKind.u16.min ≤ t) (t1 : t ≤ IntKind.u16.max) (v : Value) (rows : List (List Int)) (hl : rows.length ≤ maxLen) (hr3 : ∀ r ∈ rows, r.length = 3)
    (hw : ∀ r ∈ rows, ∀ j, j < 3 → (Lit.int (([.i64, .i64, .i64] : List IntKind).getD j .i64) (r.getD j 0)).wf = true) (hvl : RowAt W v rows.length (rowsC [.i64, .i64, .i64] rows)) (mo : Int) (m0 : IntKind.u8.min ≤ mo) (m1 : mo ≤ IntKind.u8.max) :
    Calls Try.prog 3 #[cnV c vr vl, .int .i32 d, .int .u16 t, v, .int .u8 mo] W fun e w' => e = .returned (.bool true) ∧ Below W.heap.size W w' := by
  obtain ⟨pr, cr, rfl⟩ := hr.slice
  obtain ⟨pl, cl, rfl⟩ := hv.slice
  obtain ⟨hlen, hp, hx⟩ := pks_in hr3 hw hvl
  obtain ⟨pv, cv, rfl⟩ := hp.slice
  unfold maxLen at hm1 hm2 hl
  have hx := fun p hp => (hx p hp).2.2
  by_cases h0 : (pksOf rows).length ≤ 40
  · by_cases h1 : c.ver.length ≤ 20
    · by_cases h2 : c.val.length ≤ 20
      · exact AddTells_main W c pr pl cr cl hc h1 h2 hr hv d t _ pv cv mo d0 d1 t0 t1 m0 m1 hx hp h0
      · exact AddTells_big2 W c pr pl cr cl hc (by omega) (by omega) hr hv d t _ pv cv mo d0 d1 t0 t1 m0 m1 hx hp (by omega) h0 h1 (by omega)
    · exact AddTells_big1 W c pr pl cr cl hc (by omega) (by omega) hr hv d t _ pv cv mo d0 d1 t0 t1 m0 m1 hx hp (by omega) h0 (by omega)
  · exact AddTells_big0 W c pr pl cr cl hc (by omega) (by omega) hr hv d t _ pv cv mo d0 d1 t0 t1 m0 m1 hx hp (by omega) (by omega)
end Go.Proofs.Ytkciaegbiglfmaa
