/- AddAlone. -/
import Derived.Test.YtkciaegbiglfmaaAddBase
namespace Go.Proofs.Ytkciaegbiglfmaa
open Go.ChangeShapes Go.WideShapes Go.ChangeAt Go.RowKit Go.Shelf
set_option linter.unusedVariables false
set_option maxRecDepth 100000
set_option maxHeartbeats 20000000 in
theorem AddAlone_main (W : World) (c : Cn) (pr pl : Option Addr) (cr cl : Nat) (hc : c.Wf) (hn1 : c.ver.length ≤ 20) (hn2 : c.val.length ≤ 20) (hr : IntsAt W .u32 (.slice pr c.ver.length cr) c.ver) (hv : IntsAt W .i32 (.slice pl c.val.length cl) c.val) (d t : Int) (d0 : -2147483648 ≤ d) (d1 : d ≤ 2147483647) (t0 : 0 ≤ t) (t1 : t ≤ 65535) :
    Calls Try.prog 4 #[cnV c (.slice pr c.ver.length cr) (.slice pl c.val.length cl), .int .i32 d, .int .u16 t] W fun e w' => e = .returned (.bool true) ∧ Below W.heap.size W w' := by
  have Hh := Lib.hid (head_any ((Own.start W).new (cnO c (.slice pr c.ver.length cr) (.slice pl c.val.length cl))))
  have HSz := fun w => Lib.hid (Size_any c (.slice pr c.ver.length cr) (.slice pl c.val.length cl) hc w)
  have HWs := fun L w h => Lib.hid (lWords2 (L := L) (w := w) c _ _ hc hn1 hn2 hr hv h)
  have hb := c.bE hc
  have hs := c.sE
  have hg := c.gE hc
  have hok := wlay_ok c hc (d.tmod 1048576)
  have hgl := wlay_get c c.s (Nat.le_refl _) c.b
  rw [if_pos rfl] at hgl
  have hwl := wlay_len c c.s
  have hg1 : (wlay c c.s).getD (c.b + 1) 0 = 0 := by rw [wlay_get c c.s (Nat.le_refl _), if_neg (by omega), if_neg (by omega), if_neg (by omega)]
  have hg2 : (wlay c c.s).getD (c.b + 2) 0 = 0 := by rw [wlay_get c c.s (Nat.le_refl _), if_neg (by omega), if_neg (by omega), if_neg (by omega)]
  have hp := fun x h0 h1 => cP_ok c hc x h0 h1
  have hl0 := hc.l0
  have hl1 := hc.l1
  simp only [cP] at hok hp
  rw [hb.1, hs.1, show c.ga % 40 + 1 = c.g from rfl] at HSz
  simp only [cnV] at HSz HWs ⊢
  unfold cnO at Hh
  generalize c.b = b at *
  generalize c.g = g at *
  generalize wlay c c.s = ws at *
  generalize c.s = s at *
  obtain ⟨-, hb⟩ := hb
  obtain ⟨-, hs0, hs1⟩ := hs
  have Hok := Lib.hid hok
  have Hp := Lib.hid hp
  have Hgl := Lib.hid (show -2147483648 ≤ ws.getD b 0 ∧ ws.getD b 0 ≤ 2147483647 by omega)
  have Hg1 := Lib.hid hg1
  have Hg2 := Lib.hid hg2
  have hd1 : decide (20 < (c.ver.length : Int)) = false := by simp; omega
  have hd2 : decide (20 < (c.val.length : Int)) = false := by simp; omega
  clear hok hgl hl0 hl1 hg1 hg2 hp
  go_enter Try.func4, Try.ntmps4
  go_wp2_with fail
  refine Hh.out.mono ?_
  rintro e w1 ⟨rfl, hO⟩
  obtain ⟨c0, c1, c2, c3, c4, c5, c6⟩ := cnCells hO
  have HO := Lib.hid hO
  clear Hh hO
  go_wp2_with fail
  refine (HSz _).out.mono ?_
  rintro e w2 ⟨rfl, hB⟩
  have hO := HO.out.below hB
  clear c0 c1 c2 c3 c4 c5 c6 HO HSz
  obtain ⟨c0, c1, c2, c3, c4, c5, c6⟩ := cnCells hO
  have H1 := HWs _ _ hO
  clear HWs hO
  go_wp2_with fail
  refine H1.out.mono ?_
  rintro e w3 ⟨vw, rfl, hO⟩
  have H2 := Lib.hid (laid_any (by omega) (by omega) hO)
  clear c0 c1 c2 c3 c4 c5 c6 H1 hO
  go_wp2_with fail
  refine H2.out.mono ?_
  rintro e w4 ⟨m, rfl, hO⟩
  have hwN := hwl
  generalize hN : ws.length = N at hO hwl
  replace hwN := hN
  obtain ⟨P, hP⟩ : ∃ P : AP, P = ⟨b, s, g, d.tmod 1048576⟩ := ⟨_, rfl⟩
  rw [← hP] at Hok
  have hdd : -1048576 ≤ d.tmod 1048576 ∧ d.tmod 1048576 ≤ 1048576 := by have := tm_bd d 1048576 (by omega); omega
  have hPok : P.Ok := by rw [hP]; exact Hp.out _ hdd.1 hdd.2
  have hPb : P.b = b := by rw [hP]
  have hPS : P.S = s := by rw [hP]
  have hPg : P.g = g := by rw [hP]
  have hPd : P.d = d.tmod 1048576 := by rw [hP]
  clear hP Hp
  have hA := fun w => Lib.hid (amount_any d d0 d1 w)
  generalize d.tmod 1048576 = dd at *
  have hsm := sumZ_small hPok Hok.out (by rw [hPb]; have := Hgl.out; omega) (by rw [hPb]; have := Hgl.out; omega)
  have hsb := sumZ_bd hPok Hok.out
  rw [hPb] at hsb
  have H3 := addSum_any P s hPS hs0 hs1 hPok.b (by rw [hPb]; omega) (by omega) Hok.out.wf hO
  rw [hPb, hsm] at H3
  have hgl := Hgl.out
  have Z0 : -5000000000 ≤ sumZ P ws := by omega
  have Z1 : sumZ P ws ≤ 5000000000 := by omega
  have hx := bg_bd (t % 1001) (by omega) (by omega)
  clear hsm hsb hgl H2 hO
  have H3' := Lib.hid H3
  go_wp2_with fail
  refine H3'.out.mono ?_
  rintro e w5 ⟨rfl, hO⟩
  have HN := addNew_any P (t % 1001) (by omega) (by omega) hO
  rw [hPb, hPS, hPg, hPd] at HN
  have HN' := Lib.hid HN
  clear H3 H3' HN hO
  go_wp2_with fail
  refine (hA _).out.mono ?_
  rintro e w6 ⟨rfl, rfl⟩
  go_wp2_with fail
  refine HN'.out.mono ?_
  rintro e w6 ⟨g1, rfl, hO⟩
  have H4 := Lib.hid (Add_play g1 m P _ (s0A (t % 1001)) ws [] [] 50 (by decide) (pksAt_nil _) (by decide) hPok (s0_ok _ (by omega) (by omega)) Hok.out (by decide) (fun _ _ _ h => h) hO)
  obtain ⟨n, s', ws', lg', e1, h9, hlg, A⟩ := alone_any hPok Hok.out g1 (bg (t % 1001)) hx.1 hx.2 50 (by omega) []
  have e2 : playF (addM g1 P) [] (50 : Int).toNat 0 (s0A (t % 1001)) ws [] = (n, true, s', ws', lg') := e1
  rw [e2] at H4
  have a2 : wrap64 (sumZ P ws') = sumZ P ws + dd := by
    obtain ⟨k, hk⟩ := A.sum
    rw [hk, hPd]; unfold wrap64; omega
  have a3 : ∀ i, i < b ∨ (b : Int) + 4 + s ≤ i → ws'.getD i 0 = ws.getD i 0 := by
    have := A.out; rw [hPb, hPS] at this; exact this
  have a4 := A.begun
  have a5 := A.done
  have a6 := A.live
  have a7 := A.glob
  have a8 := A.len.trans hN
  rw [hPb] at a4 a5 a6 a7
  rw [Hg1.out] at a4
  rw [Hg2.out] at a5
  have HA := Lib.hid A.ok
  rcases A.n36 with hn | hn
  · rw [hn, if_neg (by decide)] at a4 a5
    replace a7 := a7 hn
    generalize sumZ P ws = S0 at *
    have H5 := Lib.hid a2
    have H6 := Lib.hid a3
    have H7 := Lib.hid a4
    have H8 := Lib.hid a5
    have H9 := Lib.hid a6
    have H10 := Lib.hid a7
    have H11 := Lib.hid hn
    subst hn
    clear a2 a3 a4 a5 a6 a7 e1 e2 A hlg HN' hO h9
    go_wp2_with fail
    refine H4.out.mono ?_
    rintro e w7 ⟨rfl, hO⟩
    have hO := hO.drop
    simp only at hO
    have H12 := Lib.hid (Words_any (by omega) hO)
    clear H4 hO
    go_wp2_with fail
    refine H12.out.mono ?_
    rintro e w8 ⟨v8, rfl, hO⟩
    rw [a8] at hO
    obtain ⟨p8, c8, rfl⟩ := row_slice hO
    obtain ⟨pw, cw, rfl⟩ := row_slice hO.p2
    have HO := Lib.hid hO
    clear H12 hO
    go_wp2_with fail
    go_loopw [18] (fun v18 wr => ∃ k : Nat, k ≤ N ∧ v18 = .int .i64 k ∧ Own W NoF [row (.slice p8 N c8) 3 1 N (intC ws'), memA 94 m ws' lg', row (.slice pw N cw) 3 1 N (intC ws), blk W.heap.size (.cells #[.int .u8 c.bs, .int .u8 c.st, .int .u16 c.ga, .int .i32 c.gl, .int .u8 c.lv, .slice pr c.ver.length cr, .slice pl c.val.length cl] 26 (0, 0))] wr) (fun v18 _ => N - (intOf v18).toNat)
    case atStart => exact ⟨0, Nat.zero_le _, rfl, HO.out⟩
    case round =>
      obtain ⟨k, hk, rfl, hO⟩ := hrel
      obtain ⟨b8, o8, q8, hv8, hc8⟩ := (hO.intsN a8).at (by omega)
      obtain ⟨bw, ow, qw, hvw, hcw⟩ := (hO.p2.intsN hwN).at (by omega)
      injection hv8 with hv8 _ hv8q
      injection hvw with hvw _ hvwq
      subst hv8 hvw hv8q hvwq
      by_cases hlt : k < N
      · have x8 := hc8 k (by omega)
        have xw := hcw k (by omega)
        have HO2 := Lib.hid hO
        clear hc8 hcw hO HO
        by_cases hlo : k < b
        · rw [H6.out k (Or.inl hlo)] at x8
          generalize ws.getD k 0 = y at x8 xw
          go_wp2_with fail
          go_quiet (fail)
          go_wp2_with fail
          go_roundw
          case rel => exact ⟨k + 1, by omega, by go_num, HO2.out.drewN nq⟩
          case measure => simp [intOf]; omega
        · have F1 : decide ((k : Int) < (b : Int)) = false := by simp; omega
          have F2 : decide (k < b) = false := by simp; omega
          clear hlo
          by_cases hhi : b + 4 + s ≤ k
          · rw [H6.out k (Or.inr (by omega))] at x8
            have F3 : decide ((b : Int) + 4 + (s : Int) ≤ (k : Int)) = true := by simp; omega
            have F4 : decide (b + 4 + s ≤ k) = true := by simp; omega
            generalize ws.getD k 0 = y at x8 xw
            go_wp2_with fail
            go_quiet (fail)
            go_wp2_with fail
            go_roundw
            case rel => exact ⟨k + 1, by omega, by go_num, HO2.out.drewN nq⟩
            case measure => simp [intOf]; omega
          · have F3 : decide ((b : Int) + 4 + (s : Int) ≤ (k : Int)) = false := by simp; omega
            have F4 : decide (b + 4 + s ≤ k) = false := by simp; omega
            clear hhi
            go_wp2_with fail
            go_quiet (fail)
            go_wp2_with fail
            go_roundw
            case rel => exact ⟨k + 1, by omega, by go_num, HO2.out.drewN nq⟩
            case measure => simp [intOf]; omega
      · have hkN : k = N := by omega
        subst hkN
        have HSum := fun d os => Calls.regrown_of (addSum_b P s hPS hs0 hs1 hPok.b (by rw [hPb]; omega) (by omega) HA.out.wf (hO.swap.below (below_regrown _ d os)))
        rw [hPb, H5.out] at HSum
        have HSumx := Lib.hid HSum
        have hAm := fun d os => Calls.regrown_of (w := wr) (d := d) (os := os) ((hA _).out.mono fun e w' ⟨a, b⟩ => ⟨a, by subst b; exact Below.refl _ _⟩)
        have HAm := Lib.hid hAm
        have y1 := hc8 (b + 1) (by omega)
        have y2 := hc8 (b + 2) (by omega)
        have y3 := hc8 (b + 3) (by omega)
        have y0 := hc8 b (by omega)
        have z1 := hcw (b + 1) (by omega)
        have z2 := hcw (b + 2) (by omega)
        have z3 := hcw (b + 3) (by omega)
        have z0 := hcw b (by omega)
        rw [H7.out] at y1
        rw [H8.out] at y2
        rw [H9.out] at y3
        rw [Hg1.out] at z1
        rw [Hg2.out] at z2
        rw [H10.out] at y0
        generalize ws.getD b 0 = q0 at y0 z0
        generalize ws.getD (b + 3) 0 = q3 at y3 z3
        have k0 := cell_regrown y0
        have k1 := cell_regrown y1
        have k2 := cell_regrown y2
        have k3 := cell_regrown y3
        have j0 := cell_regrown z0
        have j1 := cell_regrown z1
        have j2 := cell_regrown z2
        have j3 := cell_regrown z3
        have HO3 := Lib.hid (show Stp W wr from hO.toBelow)
        clear HO HSum hAm hO hc8 hcw y0 y1 y2 y3 z0 z1 z2 z3
        go_wp2_with fail
        dsimp only [List.append]
        refine wp_region_quiet_below (by kernel_rfl) (by kernel_rfl) ?_
        repeat (go_big_quiet_step ((first | (go_at_call 23; exact HSumx.out _ _) | (go_at_call 15; exact HAm.out _ _))))
        refine wpQuiet_nil ?_
        intro _ hw'
        obtain ⟨⟨dq, osq⟩, hw''⟩ := hw'
        subst hw''
        clear k0 k1 k2 k3 j0 j1 j2 j3
        go_wp2_with fail
        go_ret
        exact ⟨rfl, HO3.out.trans (below_regrown _ dq osq)⟩
  · rw [hn, if_pos rfl, show wrap64 (0 + 1) = 1 from by decide +kernel] at a4 a5
    replace a7 : True := trivial
    generalize sumZ P ws = S0 at *
    have H5 := Lib.hid a2
    have H6 := Lib.hid a3
    have H7 := Lib.hid a4
    have H8 := Lib.hid a5
    have H9 := Lib.hid a6
    have H10 := Lib.hid a7
    have H11 := Lib.hid hn
    subst hn
    clear a2 a3 a4 a5 a6 a7 e1 e2 A hlg HN' hO h9
    go_wp2_with fail
    refine H4.out.mono ?_
    rintro e w7 ⟨rfl, hO⟩
    have hO := hO.drop
    simp only at hO
    have H12 := Lib.hid (Words_any (by omega) hO)
    clear H4 hO
    go_wp2_with fail
    refine H12.out.mono ?_
    rintro e w8 ⟨v8, rfl, hO⟩
    rw [a8] at hO
    obtain ⟨p8, c8, rfl⟩ := row_slice hO
    obtain ⟨pw, cw, rfl⟩ := row_slice hO.p2
    have HO := Lib.hid hO
    clear H12 hO
    go_wp2_with fail
    go_loopw [18] (fun v18 wr => ∃ k : Nat, k ≤ N ∧ v18 = .int .i64 k ∧ Own W NoF [row (.slice p8 N c8) 3 1 N (intC ws'), memA 94 m ws' lg', row (.slice pw N cw) 3 1 N (intC ws), blk W.heap.size (.cells #[.int .u8 c.bs, .int .u8 c.st, .int .u16 c.ga, .int .i32 c.gl, .int .u8 c.lv, .slice pr c.ver.length cr, .slice pl c.val.length cl] 26 (0, 0))] wr) (fun v18 _ => N - (intOf v18).toNat)
    case atStart => exact ⟨0, Nat.zero_le _, rfl, HO.out⟩
    case round =>
      obtain ⟨k, hk, rfl, hO⟩ := hrel
      obtain ⟨b8, o8, q8, hv8, hc8⟩ := (hO.intsN a8).at (by omega)
      obtain ⟨bw, ow, qw, hvw, hcw⟩ := (hO.p2.intsN hwN).at (by omega)
      injection hv8 with hv8 _ hv8q
      injection hvw with hvw _ hvwq
      subst hv8 hvw hv8q hvwq
      by_cases hlt : k < N
      · have x8 := hc8 k (by omega)
        have xw := hcw k (by omega)
        have HO2 := Lib.hid hO
        clear hc8 hcw hO HO
        by_cases hlo : k < b
        · rw [H6.out k (Or.inl hlo)] at x8
          generalize ws.getD k 0 = y at x8 xw
          go_wp2_with fail
          go_quiet (fail)
          go_wp2_with fail
          go_roundw
          case rel => exact ⟨k + 1, by omega, by go_num, HO2.out.drewN nq⟩
          case measure => simp [intOf]; omega
        · have F1 : decide ((k : Int) < (b : Int)) = false := by simp; omega
          have F2 : decide (k < b) = false := by simp; omega
          clear hlo
          by_cases hhi : b + 4 + s ≤ k
          · rw [H6.out k (Or.inr (by omega))] at x8
            have F3 : decide ((b : Int) + 4 + (s : Int) ≤ (k : Int)) = true := by simp; omega
            have F4 : decide (b + 4 + s ≤ k) = true := by simp; omega
            generalize ws.getD k 0 = y at x8 xw
            go_wp2_with fail
            go_quiet (fail)
            go_wp2_with fail
            go_roundw
            case rel => exact ⟨k + 1, by omega, by go_num, HO2.out.drewN nq⟩
            case measure => simp [intOf]; omega
          · have F3 : decide ((b : Int) + 4 + (s : Int) ≤ (k : Int)) = false := by simp; omega
            have F4 : decide (b + 4 + s ≤ k) = false := by simp; omega
            clear hhi
            go_wp2_with fail
            go_quiet (fail)
            go_wp2_with fail
            go_roundw
            case rel => exact ⟨k + 1, by omega, by go_num, HO2.out.drewN nq⟩
            case measure => simp [intOf]; omega
      · have hkN : k = N := by omega
        subst hkN
        have HSum := fun d os => Calls.regrown_of (addSum_b P s hPS hs0 hs1 hPok.b (by rw [hPb]; omega) (by omega) HA.out.wf (hO.swap.below (below_regrown _ d os)))
        rw [hPb, H5.out] at HSum
        have HSumx := Lib.hid HSum
        have hAm := fun d os => Calls.regrown_of (w := wr) (d := d) (os := os) ((hA _).out.mono fun e w' ⟨a, b⟩ => ⟨a, by subst b; exact Below.refl _ _⟩)
        have HAm := Lib.hid hAm
        have y1 := hc8 (b + 1) (by omega)
        have y2 := hc8 (b + 2) (by omega)
        have y3 := hc8 (b + 3) (by omega)
        have y0 := hc8 b (by omega)
        have z1 := hcw (b + 1) (by omega)
        have z2 := hcw (b + 2) (by omega)
        have z3 := hcw (b + 3) (by omega)
        have z0 := hcw b (by omega)
        rw [H7.out] at y1
        rw [H8.out] at y2
        rw [H9.out] at y3
        rw [Hg1.out] at z1
        rw [Hg2.out] at z2
        generalize ws.getD b 0 = q0 at z0
        generalize ws'.getD b 0 = q1 at y0
        generalize ws.getD (b + 3) 0 = q3 at y3 z3
        have k0 := cell_regrown y0
        have k1 := cell_regrown y1
        have k2 := cell_regrown y2
        have k3 := cell_regrown y3
        have j0 := cell_regrown z0
        have j1 := cell_regrown z1
        have j2 := cell_regrown z2
        have j3 := cell_regrown z3
        have HO3 := Lib.hid (show Stp W wr from hO.toBelow)
        clear HO HSum hAm hO hc8 hcw y0 y1 y2 y3 z0 z1 z2 z3
        go_wp2_with fail
        dsimp only [List.append]
        refine wp_region_quiet_below (by kernel_rfl) (by kernel_rfl) ?_
        repeat (go_big_quiet_step ((first | (go_at_call 23; exact HSumx.out _ _) | (go_at_call 15; exact HAm.out _ _))))
        refine wpQuiet_nil ?_
        intro _ hw'
        obtain ⟨⟨dq, osq⟩, hw''⟩ := hw'
        subst hw''
        clear k0 k1 k2 k3 j0 j1 j2 j3
        go_wp2_with fail
        go_ret
        exact ⟨rfl, HO3.out.trans (below_regrown _ dq osq)⟩
theorem AddAlone_big1 (W : World) (c : Cn) (pr pl : Option Addr) (cr cl : Nat) (hc : c.Wf) (hm1 : c.ver.length ≤ 9223372036854775807) (hm2 : c.val.length ≤ 9223372036854775807) (hr : IntsAt W .u32 (.slice pr c.ver.length cr) c.ver) (hv : IntsAt W .i32 (.slice pl c.val.length cl) c.val) (d t : Int) (d0 : -2147483648 ≤ d) (d1 : d ≤ 2147483647) (t0 : 0 ≤ t) (t1 : t ≤ 65535) (h : 20 < c.ver.length) :
    Calls Try.prog 4 #[cnV c (.slice pr c.ver.length cr) (.slice pl c.val.length cl), .int .i32 d, .int .u16 t] W fun e w' => e = .returned (.bool true) ∧ Below W.heap.size W w' := by
  have Hh := Lib.hid (head_any ((Own.start W).new (cnO c (.slice pr c.ver.length cr) (.slice pl c.val.length cl))))
  unfold cnV
  have hd1 : decide (20 < (c.ver.length : Int)) = true := by simp; omega
  go_enter Try.func4, Try.ntmps4
  go_wp2_with fail
  refine Hh.out.mono ?_
  rintro e w1 ⟨rfl, hO⟩
  obtain ⟨c0, c1, c2, c3, c4, c5, c6⟩ := cnCells hO
  clear Hh
  go_wp2_with fail
  go_ret
  exact ⟨rfl, hO.toBelow⟩
theorem AddAlone_big2 (W : World) (c : Cn) (pr pl : Option Addr) (cr cl : Nat) (hc : c.Wf) (hm1 : c.ver.length ≤ 9223372036854775807) (hm2 : c.val.length ≤ 9223372036854775807) (hr : IntsAt W .u32 (.slice pr c.ver.length cr) c.ver) (hv : IntsAt W .i32 (.slice pl c.val.length cl) c.val) (d t : Int) (d0 : -2147483648 ≤ d) (d1 : d ≤ 2147483647) (t0 : 0 ≤ t) (t1 : t ≤ 65535) (h1 : c.ver.length ≤ 20) (h : 20 < c.val.length) :
    Calls Try.prog 4 #[cnV c (.slice pr c.ver.length cr) (.slice pl c.val.length cl), .int .i32 d, .int .u16 t] W fun e w' => e = .returned (.bool true) ∧ Below W.heap.size W w' := by
  have Hh := Lib.hid (head_any ((Own.start W).new (cnO c (.slice pr c.ver.length cr) (.slice pl c.val.length cl))))
  unfold cnV
  have hd1 : decide (20 < (c.ver.length : Int)) = false := by simp; omega
  have hd2 : decide (20 < (c.val.length : Int)) = true := by simp; omega
  go_enter Try.func4, Try.ntmps4
  go_wp2_with fail
  refine Hh.out.mono ?_
  rintro e w1 ⟨rfl, hO⟩
  obtain ⟨c0, c1, c2, c3, c4, c5, c6⟩ := cnCells hO
  clear Hh
  go_wp2_with fail
  go_ret
  exact ⟨rfl, hO.toBelow⟩
theorem AddAlone_calls (W : World) (c : Cn) (vr vl : Value) (hc : c.Wf) (hm1 : c.ver.length ≤ maxLen) (hm2 : c.val.length ≤ maxLen) (hr : IntsAt W .u32 vr c.ver) (hv : IntsAt W .i32 vl c.val) (d : Int) (d0 : IntKind.i32.min ≤ d) (d1 : d ≤ IntKind.i32.max) (t : Int) (t0 : IntKind.u16.min ≤ t) (t1 : t ≤ IntKind.u16.max) :
    Calls Try.prog 4 #[cnV c vr vl, .int .i32 d, .int .u16 t] W fun e w' => e = .returned (.bool true) ∧ Below W.heap.size W w' := by
  obtain ⟨pr, cr, rfl⟩ := hr.slice
  obtain ⟨pl, cl, rfl⟩ := hv.slice
  unfold maxLen at hm1 hm2
  by_cases h1 : c.ver.length ≤ 20
  · by_cases h2 : c.val.length ≤ 20
    · exact AddAlone_main W c pr pl cr cl hc h1 h2 hr hv d t d0 d1 t0 t1
    · exact AddAlone_big2 W c pr pl cr cl hc (by omega) (by omega) hr hv d t d0 d1 t0 t1 h1 (by omega)
  · exact AddAlone_big1 W c pr pl cr cl hc (by omega) (by omega) hr hv d t d0 d1 t0 t1 (by omega)
end Go.Proofs.Ytkciaegbiglfmaa
