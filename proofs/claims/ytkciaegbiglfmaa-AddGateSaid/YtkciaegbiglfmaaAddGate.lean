/- AddGate. -/
import Derived.Test.YtkciaegbiglfmaaAddBase
import Derived.Test.YtkciaegbiglfmaaAddPoked
import Derived.Test.YtkciaegbiglfmaaMemBelow
namespace Go.Proofs.Ytkciaegbiglfmaa
open Go.ChangeShapes Go.WideShapes Go.ChangeAt Go.RowKit Go.Shelf
set_option linter.unusedVariables false
set_option maxRecDepth 100000
set_option maxHeartbeats 20000000 in
theorem AddGate_main (W : World) (c : Cn) (pr pl : Option Addr) (cr cl : Nat) (hc : c.Wf) (hn1 : c.ver.length ≤ 20) (hn2 : c.val.length ≤ 20) (hr : IntsAt W .u32 (.slice pr c.ver.length cr) c.ver) (hv : IntsAt W .i32 (.slice pl c.val.length cl) c.val) (d t : Int) (l : List Pk) (pv : Option Addr) (cv : Nat) (d0 : -2147483648 ≤ d) (d1 : d ≤ 2147483647) (t0 : 0 ≤ t) (t1 : t ≤ 65535) (hlx : ∀ p ∈ l, I64 p.x) (hlv : PksAt W (.slice pv l.length cv) l) (hz : l.length ≤ 40) :
    Calls Try.prog 5 #[cnV c (.slice pr c.ver.length cr) (.slice pl c.val.length cl), .int .i32 d, .int .u16 t, .slice pv l.length cv] W fun e w' => e = .returned (.bool true) ∧ Below W.heap.size W w' := by
  have hd3 : decide (40 < (l.length : Int)) = false := by simp; omega
  have hd4 : decide (40 < l.length) = false := by simp; omega
  have HPk := fun L w h => Lib.hid (Poked_any (L := L) (w := w) c (.slice pr c.ver.length cr) (.slice pl c.val.length cl) (.slice pv l.length cv) hc l (by omega) hlx hlv h)
  have HPo := Lib.hid (show ∀ r ∈ pokedL c l, PkOk ⟨c.b, c.s, c.g, 0⟩ r from pkL_ok (p := ⟨c.b, c.s, c.g, 0⟩) (b := c.b) (s := c.s) (g := c.g) (lv := c.lve) rfl rfl rfl (c.gE hc).1 (by have := (c.gE hc).2; omega) ⟨c.live8.1, by have := c.live8.2; rw [c.sE.1] at this; exact this⟩ l hlx)
  have HPn := Lib.hid (show (pokedL c l).length ≤ 40 by have := pkL_len (b := c.b) (s := c.s) (g := c.g) (lv := c.lve) l; unfold pokedL; omega)
  have Hh := Lib.hid (head_any ((Own.start W).new (cnO c (.slice pr c.ver.length cr) (.slice pl c.val.length cl))))
  have HSz := fun w => Lib.hid (Size_any c (.slice pr c.ver.length cr) (.slice pl c.val.length cl) hc w)
  have HWs := fun L w h => Lib.hid (lWords2 (L := L) (w := w) c _ _ hc hn1 hn2 hr hv h)
  have hb := c.bE hc
  have hs := c.sE
  have hg := c.gE hc
  have hok := wlay_ok c hc (0)
  have hgl := wlay_get c c.s (Nat.le_refl _) c.b
  rw [if_pos rfl] at hgl
  have hwl := wlay_len c c.s
  have hg1 : (wlay c c.s).getD (c.b + 1) 0 = 0 := by rw [wlay_get c c.s (Nat.le_refl _), if_neg (by omega), if_neg (by omega), if_neg (by omega)]
  have hg2 : (wlay c c.s).getD (c.b + 2) 0 = 0 := by rw [wlay_get c c.s (Nat.le_refl _), if_neg (by omega), if_neg (by omega), if_neg (by omega)]
  have hp := fun x h0 h1 => cP_ok c hc x h0 h1
  have hl0 := hc.l0
  have hl1 := hc.l1
  simp only [cP] at hok hp
  rw [hb.1, hs.1, show c.ga % 40 + 1 = c.g from rfl] at HSz
  simp only [cnV] at HSz HWs HPk ⊢
  unfold cnO at Hh
  generalize pokedL c l = R at *
  generalize c.b = b at *
  generalize c.g = g at *
  generalize wlay c c.s = ws at *
  generalize c.s = s at *
  obtain ⟨-, hb⟩ := hb
  obtain ⟨-, hs0, hs1⟩ := hs
  have Hok := Lib.hid hok
  have Hp := Lib.hid hp
  have Hgl := Lib.hid (show -2147483648 ≤ ws.getD b 0 ∧ ws.getD b 0 ≤ 2147483647 by omega)
  have Hg1 := Lib.hid hg1
  have Hg2 := Lib.hid hg2
  have hd1 : decide (20 < (c.ver.length : Int)) = false := by simp; omega
  have hd2 : decide (20 < (c.val.length : Int)) = false := by simp; omega
  clear hok hgl hl0 hl1 hg1 hg2 hp
  go_enter Try.func5, Try.ntmps5
  go_wp2_with fail
  refine Hh.out.mono ?_
  rintro e w1 ⟨rfl, hO⟩
  obtain ⟨c0, c1, c2, c3, c4, c5, c6⟩ := cnCells hO
  have HO := Lib.hid hO
  clear Hh hO
  go_wp2_with fail
  refine (HSz _).out.mono ?_
  rintro e w2 ⟨rfl, hB⟩
  have hO := HO.out.below hB
  clear c0 c1 c2 c3 c4 c5 c6 HO HSz
  obtain ⟨c0, c1, c2, c3, c4, c5, c6⟩ := cnCells hO
  have H1 := HWs _ _ hO
  clear HWs hO
  go_wp2_with fail
  refine H1.out.mono ?_
  rintro e w3 ⟨vw, rfl, hO⟩
  have H2 := Lib.hid (laid_any (by omega) (by omega) hO)
  clear c0 c1 c2 c3 c4 c5 c6 H1 hO
  go_wp2_with fail
  refine H2.out.mono ?_
  rintro e w4 ⟨m, rfl, hO⟩
  have hOx : Own W NoF [blk W.heap.size (.cells #[.int .u8 c.bs, .int .u8 c.st, .int .u16 c.ga, .int .i32 c.gl, .int .u8 c.lv, .slice pr c.ver.length cr, .slice pl c.val.length cl] 26 (0, 0)), memA 94 m ws []] w4 := (hO.under fun _ _ h => h.drop).swap
  have HO := Lib.hid hOx
  have hdd : -1048576 ≤ d.tmod 1048576 ∧ d.tmod 1048576 ≤ 1048576 := by have := tm_bd d 1048576 (by omega); omega
  have P1 := Lib.hid (Hp.out _ hdd.1 hdd.2)
  have hA := fun w => Lib.hid (amount_any d d0 d1 w)
  generalize d.tmod 1048576 = dd at *
  have W0 : WOk ⟨b, s, g, dd⟩ ws := Hok.out.of rfl rfl rfl
  have HW0 := Lib.hid W0
  have HS0 := Lib.hid (s0_ok (p := ⟨b, s, g, dd⟩) (t % 1001) (by omega) (by omega))
  have HN := Lib.hid (addNew_any ⟨b, s, g, dd⟩ (t % 1001) (by omega) (by omega) hOx)
  clear hO hOx H2 HO W0
  go_wp2_with fail
  refine (hA _).out.mono ?_
  rintro e w6 ⟨rfl, rfl⟩
  go_wp2_with fail
  refine HN.out.mono ?_
  rintro e w6 ⟨g1, rfl, hO⟩
  obtain ⟨c0, c1, c2, c3, c4, c5, c6⟩ := cnCells hO.swap
  have H3 := HPk _ _ hO
  clear HN hO HPk
  go_wp2_with fail
  refine H3.out.mono ?_
  rintro e w7 ⟨vp, rfl, hO⟩
  obtain ⟨pr3, cr3, rfl⟩ := row_slice hO
  have HO := Lib.hid (show Own W NoF [mchA g1 (stV ⟨b, s, g, dd⟩ (s0A (t % 1001))), memA 94 m ws [], row (.slice pr3 R.length cr3) 61 3 R.length (pkC R)] w7 from (((hO.under fun _ _ h => h.under fun _ _ h => h.drop).swap).under fun _ _ h => h.swap))
  clear c0 c1 c2 c3 c4 c5 c6 H3 hO
  go_wp2_with fail
  go_loopw [17, 18, 19, 20, 21, 22] (fun v17 v18 v19 v20 v21 v22 wr => ∃ (n : Nat) (s1 : AS) (ws : List Int) (lg : List Acc), n ≤ 60 ∧ v17 = .int .i64 n ∧ s1.at_ ≠ 9 ∧ WOk ⟨b, s, g, dd⟩ ws ∧ SOk ⟨b, s, g, dd⟩ s1 ∧ ws.length = b + 4 + s + 3 ∧ lg.length = n ∧ Own W NoF [mchA g1 (stV ⟨b, s, g, dd⟩ s1), memA 94 m ws lg, row (.slice pr3 R.length cr3) 61 3 R.length (pkC R)] wr) (fun v17 v18 v19 v20 v21 v22 _ => 60 - (intOf v17).toNat)
  case atStart => exact ⟨0, _, ws, [], by decide, rfl, by simp [s0A], HW0.out, HS0.out, hwl, rfl, HO.out⟩
  case round =>
    obtain ⟨n, s1, ws, lg, hn, rfl, h9, hW, hS, hlen, hlg, hO⟩ := hrel
    have HO2 := Lib.hid hO
    have HW := Lib.hid hW
    have HS := Lib.hid hS
    have H9 := Lib.hid h9
    have Hlg := Lib.hid hlg
    clear HO HW0 HS0 hwl Hgl Hg1 Hg2 Hok Hp hO hW hS h9 hlg
    by_cases hlt : n < 60
    · have f60 : decide ((n : Int) < 60) = true := by simp; omega
      have Hlt := Lib.hid hlt
      clear hlt
      go_wp2_with fail
      go_loopw [18] (fun v18 wr => ∃ k : Nat, k ≤ R.length ∧ v18 = .int .i64 k ∧ Own W NoF [memA 94 m (pokesAt n (R.take k) ws) lg, mchA g1 (stV ⟨b, s, g, dd⟩ s1), row (.slice pr3 R.length cr3) 61 3 R.length (pkC R)] wr) (fun v18 _ => R.length - (intOf v18).toNat)
      case atStart => exact ⟨0, Nat.zero_le _, rfl, HO2.out.swap⟩
      case round =>
        obtain ⟨k, hk, rfl, hO⟩ := hrel
        clear HO2
        by_cases hkl : k < R.length
        · have hRl := HPn.out
          obtain ⟨b3, o3, e3, hb3, hc3⟩ := hO.p2.pksAt.at (by rw [pkC_len]; omega) (by omega)
          have Hnx := Lib.hid (pokes_take (t := (n : Int)) hkl ws)
          obtain ⟨x, hx⟩ : ∃ x, x = R.getD k default := ⟨_, rfl⟩
          have e := fun j hj => pkC_get R k j hkl hj
          rw [← hx] at e Hnx
          have x0 : wr.cell? ⟨b3, o3 + k * 3, none⟩ = some (.int .i64 x.at_) := hc3 (k * 3 + 0) _ (e 0 (by omega))
          have x1 : wr.cell? ⟨b3, o3 + k * 3 + 1, none⟩ = some (.int .i64 x.w) := hc3 (k * 3 + 1) _ (e 1 (by omega))
          have x2 : wr.cell? ⟨b3, o3 + k * 3 + 2, none⟩ = some (.int .i64 x.x) := hc3 (k * 3 + 2) _ (e 2 (by omega))
          clear hc3 e hx
          subst e3
          have HO := Lib.hid hO
          clear hO
          generalize pokesAt n (R.take k) ws = wk at HO Hnx
          by_cases hat : x.at_ = n
          · have hF : (x.at_ == (n : Int)) = true := by rw [beq_iff_eq]; exact hat
            have hnx := Hnx.out
            rw [if_pos hat] at hnx
            have Hnx2 := Lib.hid hnx
            have HPw := Lib.hid (fun w h => PokeW_any (w0 := W) (F0 := NoF) (L := [mchA g1 (stV ⟨b, s, g, dd⟩ s1), row (.slice (some ⟨b3, o3, none⟩) R.length cr3) 61 3 R.length (pkC R)]) (T := 94) (m := m) (ws := wk) (l := lg) (w := w) x h)
            clear hat hnx Hnx
            go_wp2_with fail
            refine wp_region_still_tail 11 (by kernel_rfl) (by kernel_rfl) ?_
            simp only [List.take_succ_cons, List.take_zero, List.drop_succ_cons, List.drop_zero]
            change wpStill _ _ wr.drew _ _ _
            iterate 11 still_step
            refine wpStill_nil ?_
            change wpList _ _ _ _ _ wr.drew
            go_wp2_with fail
            refine (HPw.out _ HO.out.drew).mono ?_
            rintro e w9 ⟨rfl, hO⟩
            rw [← Hnx2.out] at hO
            have HO3 := Lib.hid hO
            clear hO x0 x1 x2 HPw HO
            go_wp2_with fail
            go_roundw
            case rel => exact ⟨k + 1, by omega, by go_num, HO3.out⟩
            case measure => simp [intOf]; omega
          · have hF : (x.at_ == (n : Int)) = false := beq_f hat
            have hnx := Hnx.out
            rw [if_neg hat] at hnx
            have Hnx2 := Lib.hid hnx
            clear hat hnx Hnx
            go_wp2_with fail
            go_roundw
            case rel => exact ⟨k + 1, by omega, by go_num, by rw [Hnx2.out]; exact HO.out⟩
            case measure => simp [intOf]; omega
        · obtain rfl : k = R.length := by omega
          rw [List.take_length] at hO
          have hW2 := pokesAt_ok P1.out (l := R) (fun q hq => let h := HPo.out q hq; ⟨h.w0, h.w1, h.x, h.live, h.gate⟩) n HW.out
          have hlen2 : (pokesAt n R ws).length = b + 4 + s + 3 := by rw [pokesAt_len]; exact hlen
          generalize pokesAt n R ws = wk at hO hW2 hlen2
          have hl3 := step_log (ws := wk) (lg := lg) HS.out H9.out
          have hST := add_steps g1 m _ ⟨b, s, g, dd⟩ [row (.slice pr3 R.length cr3) 61 3 R.length (pkC R)] s1 wk lg wr ⟨P1.out, hW2, HS.out, by rw [Hlg.out]; omega⟩ hO.swap
          have hW3 := WOk.step (lg := lg) P1.out hW2 HS.out
          have hS3 := SOk.step (lg := lg) P1.out hW2 HS.out
          have hE := step_flag (ws := wk) (lg := lg) HS.out
          have hL3 := step_len (p := ⟨b, s, g, dd⟩) (s := s1) (ws := wk) (lg := lg)
          simp only [addM] at hST
          rw [hE] at hST
          rw [hlen2] at hL3
          rw [Hlg.out] at hl3
          generalize (stepA ⟨b, s, g, dd⟩ s1 wk lg).1 = s2 at *
          generalize (stepA ⟨b, s, g, dd⟩ s1 wk lg).2.1 = wz at *
          generalize (stepA ⟨b, s, g, dd⟩ s1 wk lg).2.2.1 = lz at *
          have HST := Lib.hid hST
          have HW3 := Lib.hid hW3
          have HS3 := Lib.hid hS3
          have Hl3 := Lib.hid hl3
          clear hST hW3 hS3 hE hO hW2 hlen2 HW HS H9 hl3 hkl hk hlen Hlg
          go_wp2_with fail
          refine HST.out.mono ?_
          rintro e w9 ⟨rfl, hO⟩
          have H5 := Lib.hid (Words_any (by omega) hO.swap)
          rw [hL3] at H5
          clear hO HST
          go_wp2_with fail
          refine H5.out.mono ?_
          rintro e w10 ⟨v10, rfl, hO⟩
          obtain ⟨p10, c10, rfl⟩ := row_slice hO
          obtain ⟨b10, o10, q10, hv10, hc10⟩ := (hO.intsN hL3).at (by omega)
          injection hv10 with hv10 hlq hv10q
          clear hlq
          subst hv10 hv10q
          have y3 := hc10 (b + 3) (by omega)
          have HOa := Lib.hid (show Own W NoF [memA 94 m wz lz, row (.slice (some ⟨b10, o10, none⟩) (b + 4 + s + 3) c10) 3 1 (b + 4 + s + 3) (intC wz), mchA g1 (stV ⟨b, s, g, dd⟩ s2), row (.slice pr3 R.length cr3) 61 3 R.length (pkC R)] w10 from hO.swap)
          have H6 := Lib.hid (Log_b (by rw [Hl3.out]; omega) HOa.out.drew)
          have hlv := HW3.out.live
          have hlv2 := HW3.out.live2
          simp only at hlv hlv2
          have HB := Lib.hid (show ∀ j, j < b + 4 + s + 3 → w10.cell? ⟨b10, o10 + j, none⟩ = some (.int .i64 (wz.getD j 0)) from fun j hj => hc10 j (by omega))
          clear hc10 H5 hO
          generalize wz.getD (b + 3) 0 = lv at y3 hlv hlv2
          have k3 : (((b + 4 + s + 3 : Nat) : Int) != (b : Int) + 4 + (s : Int) + 3) = false := by simp
          have k4 : (((n + 1 : Nat) : Int) != (n : Int) + 1) = false := by simp
          have e1 : IntKind.i64.wrap ((b : Int) + 4) = (b : Int) + 4 := IntWalk.i64_in _ (by omega)
          have e2 : IntKind.i64.wrap ((b : Int) + 4 + (s : Int)) = (b : Int) + 4 + (s : Int) := IntWalk.i64_in _ (by omega)
          have e3 : IntKind.i64.wrap ((b : Int) + 4 + (s : Int) + 3) = (b : Int) + 4 + (s : Int) + 3 := IntWalk.i64_in _ (by omega)
          have e4 : IntKind.i64.wrap ((n : Int) + 1) = (n : Int) + 1 := IntWalk.i64_in _ (by have := Hlt.out; omega)
          have e5 : IntKind.i64.wrap ((b : Int) + 3) = (b : Int) + 3 := IntWalk.i64_in _ (by omega)
          have i1 : (b : Int) + 3 < (b : Int) + 4 + (s : Int) + 3 := by omega
          have i2 : (b : Int) + 3 < ((b + 4 + s + 3 : Nat) : Int) := by omega
          have i3 : (0 : Int) ≤ (b : Int) + 3 := by omega
          have t1 : ((b : Int) + 3).toNat = b + 3 := by omega
          rcases hlv with rfl | rfl | rfl | rfl
          · have f2 : decide ((s : Int) < 1) = false := by simp; omega
            clear hlv2
            go_wp2_with fail
            try dsimp only [List.append]
            go_region_held3 (fun w' => w'.cell? ⟨b10, o10 + (b + 3), none⟩ = some (.int .i64 1)) (go_keep)
              (first
                | (go_at_call 20; refine H6.out.mono ?_; rintro e w7 ⟨v7, rfl, hO⟩; obtain ⟨p7, c7, rfl⟩ := row_slice hO; rw [Hl3.out]; have y9 := Stp.cell hO.toBelow y3))
            all_goals
              rw [show (bits BinOp.and IntKind.i64 1 (IntKind.i64.wrap 0) != 0) = false by decide]
              have HO7 := Lib.hid (HOa.out.drew.below hO.toBelow)
              have HB7 := Lib.hid (show ∀ j, j < b + 4 + s + 3 → w7.cell? ⟨b10, o10 + j, none⟩ = some (.int .i64 (wz.getD j 0)) from fun j hj => Stp.cell hO.toBelow (HB.out j hj))
              clear hO HB HOa H6 y3 y9 t1 i1 i2 i3 e1 e2 e3 e4 e5 k3 k4
              go_wp2_with fail
              go_loopw [21] (fun v21 wr => ∃ j : Nat, j ≤ s ∧ v21 = .int .i64 j ∧ w7 = wr) (fun v21 _ => s - (intOf v21).toNat)
              case atStart => exact ⟨0, Nat.zero_le _, rfl, rfl⟩
              case round =>
                obtain ⟨j, hj, rfl, rfl⟩ := hrel
                by_cases hjl : j < s
                · have z := HB7.out (b + 4 + j) (by omega)
                  have hgt := HW3.out.gate j (by simp only; omega)
                  simp only at hgt
                  have hI := HW3.out.wf (b + 4 + j)
                  have HVl := fun w => Lib.hid (rValue_any (wz.getD (b + 4 + j) 0) hI.1 hI.2 w)
                  generalize wz.getD (b + 4 + j) 0 = y at *
                  generalize pval y = pv at *
                  have k1 : decide (pv ≤ -g) = false := by simp; omega
                  have k2 : decide (g ≤ pv) = false := by simp; omega
                  clear hgt hI
                  go_wp2_with fail
                  refine (HVl _).out.mono ?_
                  rintro e w8 ⟨rfl, rfl⟩
                  go_wp2_with fail
                  go_roundw
                  case rel => exact ⟨j + 1, by omega, by go_num, trivial⟩
                  case measure => simp [intOf]; omega
                · obtain rfl : j = s := by omega
                  by_cases h9 : s2.at_ = 9
                  · have f9 : (s2.at_ == 9) = true := by simp [h9]
                    rw [f9]
                    clear h9
                    go_wp2_with fail
                    go_ret
                    exact ⟨rfl, HO7.out.toBelow⟩
                  · have f9 : (s2.at_ == 9) = false := by simp [h9]
                    rw [f9]
                    have H9 := Lib.hid h9
                    clear h9
                    go_wp2_with fail
                    go_roundw
                    case rel => exact ⟨n + 1, s2, wz, lz, by have := Hlt.out; omega, by go_num, H9.out, HW3.out, HS3.out, hL3, Hl3.out, HO7.out.p2.under fun _ _ h => h.under fun _ _ h => h.drop⟩
                    case measure => simp [intOf]; have := Hlt.out; omega
          · have f2 : decide ((s : Int) < 2) = false := by simp; omega
            clear hlv2
            go_wp2_with fail
            try dsimp only [List.append]
            go_region_held3 (fun w' => w'.cell? ⟨b10, o10 + (b + 3), none⟩ = some (.int .i64 2)) (go_keep)
              (first
                | (go_at_call 20; refine H6.out.mono ?_; rintro e w7 ⟨v7, rfl, hO⟩; obtain ⟨p7, c7, rfl⟩ := row_slice hO; rw [Hl3.out]; have y9 := Stp.cell hO.toBelow y3))
            all_goals
              rw [show (bits BinOp.and IntKind.i64 2 (IntKind.i64.wrap 1) != 0) = false by decide]
              have HO7 := Lib.hid (HOa.out.drew.below hO.toBelow)
              have HB7 := Lib.hid (show ∀ j, j < b + 4 + s + 3 → w7.cell? ⟨b10, o10 + j, none⟩ = some (.int .i64 (wz.getD j 0)) from fun j hj => Stp.cell hO.toBelow (HB.out j hj))
              clear hO HB HOa H6 y3 y9 t1 i1 i2 i3 e1 e2 e3 e4 e5 k3 k4
              go_wp2_with fail
              go_loopw [21] (fun v21 wr => ∃ j : Nat, j ≤ s ∧ v21 = .int .i64 j ∧ w7 = wr) (fun v21 _ => s - (intOf v21).toNat)
              case atStart => exact ⟨0, Nat.zero_le _, rfl, rfl⟩
              case round =>
                obtain ⟨j, hj, rfl, rfl⟩ := hrel
                by_cases hjl : j < s
                · have z := HB7.out (b + 4 + j) (by omega)
                  have hgt := HW3.out.gate j (by simp only; omega)
                  simp only at hgt
                  have hI := HW3.out.wf (b + 4 + j)
                  have HVl := fun w => Lib.hid (rValue_any (wz.getD (b + 4 + j) 0) hI.1 hI.2 w)
                  generalize wz.getD (b + 4 + j) 0 = y at *
                  generalize pval y = pv at *
                  have k1 : decide (pv ≤ -g) = false := by simp; omega
                  have k2 : decide (g ≤ pv) = false := by simp; omega
                  clear hgt hI
                  go_wp2_with fail
                  refine (HVl _).out.mono ?_
                  rintro e w8 ⟨rfl, rfl⟩
                  go_wp2_with fail
                  go_roundw
                  case rel => exact ⟨j + 1, by omega, by go_num, trivial⟩
                  case measure => simp [intOf]; omega
                · obtain rfl : j = s := by omega
                  by_cases h9 : s2.at_ = 9
                  · have f9 : (s2.at_ == 9) = true := by simp [h9]
                    rw [f9]
                    clear h9
                    go_wp2_with fail
                    go_ret
                    exact ⟨rfl, HO7.out.toBelow⟩
                  · have f9 : (s2.at_ == 9) = false := by simp [h9]
                    rw [f9]
                    have H9 := Lib.hid h9
                    clear h9
                    go_wp2_with fail
                    go_roundw
                    case rel => exact ⟨n + 1, s2, wz, lz, by have := Hlt.out; omega, by go_num, H9.out, HW3.out, HS3.out, hL3, Hl3.out, HO7.out.p2.under fun _ _ h => h.under fun _ _ h => h.drop⟩
                    case measure => simp [intOf]; have := Hlt.out; omega
          · have f2 : decide ((s : Int) < 4) = false := by simp; omega
            clear hlv2
            go_wp2_with fail
            try dsimp only [List.append]
            go_region_held3 (fun w' => w'.cell? ⟨b10, o10 + (b + 3), none⟩ = some (.int .i64 4)) (go_keep)
              (first
                | (go_at_call 20; refine H6.out.mono ?_; rintro e w7 ⟨v7, rfl, hO⟩; obtain ⟨p7, c7, rfl⟩ := row_slice hO; rw [Hl3.out]; have y9 := Stp.cell hO.toBelow y3))
            all_goals
              rw [show (bits BinOp.and IntKind.i64 4 (IntKind.i64.wrap 3) != 0) = false by decide]
              have HO7 := Lib.hid (HOa.out.drew.below hO.toBelow)
              have HB7 := Lib.hid (show ∀ j, j < b + 4 + s + 3 → w7.cell? ⟨b10, o10 + j, none⟩ = some (.int .i64 (wz.getD j 0)) from fun j hj => Stp.cell hO.toBelow (HB.out j hj))
              clear hO HB HOa H6 y3 y9 t1 i1 i2 i3 e1 e2 e3 e4 e5 k3 k4
              go_wp2_with fail
              go_loopw [21] (fun v21 wr => ∃ j : Nat, j ≤ s ∧ v21 = .int .i64 j ∧ w7 = wr) (fun v21 _ => s - (intOf v21).toNat)
              case atStart => exact ⟨0, Nat.zero_le _, rfl, rfl⟩
              case round =>
                obtain ⟨j, hj, rfl, rfl⟩ := hrel
                by_cases hjl : j < s
                · have z := HB7.out (b + 4 + j) (by omega)
                  have hgt := HW3.out.gate j (by simp only; omega)
                  simp only at hgt
                  have hI := HW3.out.wf (b + 4 + j)
                  have HVl := fun w => Lib.hid (rValue_any (wz.getD (b + 4 + j) 0) hI.1 hI.2 w)
                  generalize wz.getD (b + 4 + j) 0 = y at *
                  generalize pval y = pv at *
                  have k1 : decide (pv ≤ -g) = false := by simp; omega
                  have k2 : decide (g ≤ pv) = false := by simp; omega
                  clear hgt hI
                  go_wp2_with fail
                  refine (HVl _).out.mono ?_
                  rintro e w8 ⟨rfl, rfl⟩
                  go_wp2_with fail
                  go_roundw
                  case rel => exact ⟨j + 1, by omega, by go_num, trivial⟩
                  case measure => simp [intOf]; omega
                · obtain rfl : j = s := by omega
                  by_cases h9 : s2.at_ = 9
                  · have f9 : (s2.at_ == 9) = true := by simp [h9]
                    rw [f9]
                    clear h9
                    go_wp2_with fail
                    go_ret
                    exact ⟨rfl, HO7.out.toBelow⟩
                  · have f9 : (s2.at_ == 9) = false := by simp [h9]
                    rw [f9]
                    have H9 := Lib.hid h9
                    clear h9
                    go_wp2_with fail
                    go_roundw
                    case rel => exact ⟨n + 1, s2, wz, lz, by have := Hlt.out; omega, by go_num, H9.out, HW3.out, HS3.out, hL3, Hl3.out, HO7.out.p2.under fun _ _ h => h.under fun _ _ h => h.drop⟩
                    case measure => simp [intOf]; have := Hlt.out; omega
          · have f2 : decide ((s : Int) < 8) = false := by simp; omega
            clear hlv2
            go_wp2_with fail
            try dsimp only [List.append]
            go_region_held3 (fun w' => w'.cell? ⟨b10, o10 + (b + 3), none⟩ = some (.int .i64 8)) (go_keep)
              (first
                | (go_at_call 20; refine H6.out.mono ?_; rintro e w7 ⟨v7, rfl, hO⟩; obtain ⟨p7, c7, rfl⟩ := row_slice hO; rw [Hl3.out]; have y9 := Stp.cell hO.toBelow y3))
            all_goals
              rw [show (bits BinOp.and IntKind.i64 8 (IntKind.i64.wrap 7) != 0) = false by decide]
              have HO7 := Lib.hid (HOa.out.drew.below hO.toBelow)
              have HB7 := Lib.hid (show ∀ j, j < b + 4 + s + 3 → w7.cell? ⟨b10, o10 + j, none⟩ = some (.int .i64 (wz.getD j 0)) from fun j hj => Stp.cell hO.toBelow (HB.out j hj))
              clear hO HB HOa H6 y3 y9 t1 i1 i2 i3 e1 e2 e3 e4 e5 k3 k4
              go_wp2_with fail
              go_loopw [21] (fun v21 wr => ∃ j : Nat, j ≤ s ∧ v21 = .int .i64 j ∧ w7 = wr) (fun v21 _ => s - (intOf v21).toNat)
              case atStart => exact ⟨0, Nat.zero_le _, rfl, rfl⟩
              case round =>
                obtain ⟨j, hj, rfl, rfl⟩ := hrel
                by_cases hjl : j < s
                · have z := HB7.out (b + 4 + j) (by omega)
                  have hgt := HW3.out.gate j (by simp only; omega)
                  simp only at hgt
                  have hI := HW3.out.wf (b + 4 + j)
                  have HVl := fun w => Lib.hid (rValue_any (wz.getD (b + 4 + j) 0) hI.1 hI.2 w)
                  generalize wz.getD (b + 4 + j) 0 = y at *
                  generalize pval y = pv at *
                  have k1 : decide (pv ≤ -g) = false := by simp; omega
                  have k2 : decide (g ≤ pv) = false := by simp; omega
                  clear hgt hI
                  go_wp2_with fail
                  refine (HVl _).out.mono ?_
                  rintro e w8 ⟨rfl, rfl⟩
                  go_wp2_with fail
                  go_roundw
                  case rel => exact ⟨j + 1, by omega, by go_num, trivial⟩
                  case measure => simp [intOf]; omega
                · obtain rfl : j = s := by omega
                  by_cases h9 : s2.at_ = 9
                  · have f9 : (s2.at_ == 9) = true := by simp [h9]
                    rw [f9]
                    clear h9
                    go_wp2_with fail
                    go_ret
                    exact ⟨rfl, HO7.out.toBelow⟩
                  · have f9 : (s2.at_ == 9) = false := by simp [h9]
                    rw [f9]
                    have H9 := Lib.hid h9
                    clear h9
                    go_wp2_with fail
                    go_roundw
                    case rel => exact ⟨n + 1, s2, wz, lz, by have := Hlt.out; omega, by go_num, H9.out, HW3.out, HS3.out, hL3, Hl3.out, HO7.out.p2.under fun _ _ h => h.under fun _ _ h => h.drop⟩
                    case measure => simp [intOf]; have := Hlt.out; omega
    · go_wp2_with fail
      go_ret
      exact ⟨rfl, HO2.out.toBelow⟩
theorem AddGate_big0 (W : World) (c : Cn) (pr pl : Option Addr) (cr cl : Nat) (hc : c.Wf) (hm1 : c.ver.length ≤ 9223372036854775807) (hm2 : c.val.length ≤ 9223372036854775807) (hr : IntsAt W .u32 (.slice pr c.ver.length cr) c.ver) (hv : IntsAt W .i32 (.slice pl c.val.length cl) c.val) (d t : Int) (l : List Pk) (pv : Option Addr) (cv : Nat) (d0 : -2147483648 ≤ d) (d1 : d ≤ 2147483647) (t0 : 0 ≤ t) (t1 : t ≤ 65535) (hlx : ∀ p ∈ l, I64 p.x) (hlv : PksAt W (.slice pv l.length cv) l) (hz : l.length ≤ 9223372036854775807) (h : 40 < l.length) :
    Calls Try.prog 5 #[cnV c (.slice pr c.ver.length cr) (.slice pl c.val.length cl), .int .i32 d, .int .u16 t, .slice pv l.length cv] W fun e w' => e = .returned (.bool true) ∧ Below W.heap.size W w' := by
  have Hh := Lib.hid (head_any ((Own.start W).new (cnO c (.slice pr c.ver.length cr) (.slice pl c.val.length cl))))
  unfold cnV
  have hd3 : decide (40 < (l.length : Int)) = true := by simp; omega
  go_enter Try.func5, Try.ntmps5
  go_wp2_with fail
  refine Hh.out.mono ?_
  rintro e w1 ⟨rfl, hO⟩
  obtain ⟨c0, c1, c2, c3, c4, c5, c6⟩ := cnCells hO
  clear Hh
  go_wp2_with fail
  go_ret
  exact ⟨rfl, hO.toBelow⟩
theorem AddGate_big1 (W : World) (c : Cn) (pr pl : Option Addr) (cr cl : Nat) (hc : c.Wf) (hm1 : c.ver.length ≤ 9223372036854775807) (hm2 : c.val.length ≤ 9223372036854775807) (hr : IntsAt W .u32 (.slice pr c.ver.length cr) c.ver) (hv : IntsAt W .i32 (.slice pl c.val.length cl) c.val) (d t : Int) (l : List Pk) (pv : Option Addr) (cv : Nat) (d0 : -2147483648 ≤ d) (d1 : d ≤ 2147483647) (t0 : 0 ≤ t) (t1 : t ≤ 65535) (hlx : ∀ p ∈ l, I64 p.x) (hlv : PksAt W (.slice pv l.length cv) l) (hz : l.length ≤ 9223372036854775807) (h0 : l.length ≤ 40) (h : 20 < c.ver.length) :
    Calls Try.prog 5 #[cnV c (.slice pr c.ver.length cr) (.slice pl c.val.length cl), .int .i32 d, .int .u16 t, .slice pv l.length cv] W fun e w' => e = .returned (.bool true) ∧ Below W.heap.size W w' := by
  have Hh := Lib.hid (head_any ((Own.start W).new (cnO c (.slice pr c.ver.length cr) (.slice pl c.val.length cl))))
  unfold cnV
  have hd3 : decide (40 < (l.length : Int)) = false := by simp; omega
  have hd1 : decide (20 < (c.ver.length : Int)) = true := by simp; omega
  go_enter Try.func5, Try.ntmps5
  go_wp2_with fail
  refine Hh.out.mono ?_
  rintro e w1 ⟨rfl, hO⟩
  obtain ⟨c0, c1, c2, c3, c4, c5, c6⟩ := cnCells hO
  clear Hh
  go_wp2_with fail
  go_ret
  exact ⟨rfl, hO.toBelow⟩
theorem AddGate_big2 (W : World) (c : Cn) (pr pl : Option Addr) (cr cl : Nat) (hc : c.Wf) (hm1 : c.ver.length ≤ 9223372036854775807) (hm2 : c.val.length ≤ 9223372036854775807) (hr : IntsAt W .u32 (.slice pr c.ver.length cr) c.ver) (hv : IntsAt W .i32 (.slice pl c.val.length cl) c.val) (d t : Int) (l : List Pk) (pv : Option Addr) (cv : Nat) (d0 : -2147483648 ≤ d) (d1 : d ≤ 2147483647) (t0 : 0 ≤ t) (t1 : t ≤ 65535) (hlx : ∀ p ∈ l, I64 p.x) (hlv : PksAt W (.slice pv l.length cv) l) (hz : l.length ≤ 9223372036854775807) (h0 : l.length ≤ 40) (h2 : c.ver.length ≤ 20) (h : 20 < c.val.length) :
    Calls Try.prog 5 #[cnV c (.slice pr c.ver.length cr) (.slice pl c.val.length cl), .int .i32 d, .int .u16 t, .slice pv l.length cv] W fun e w' => e = .returned (.bool true) ∧ Below W.heap.size W w' := by
  have Hh := Lib.hid (head_any ((Own.start W).new (cnO c (.slice pr c.ver.length cr) (.slice pl c.val.length cl))))
  unfold cnV
  have hd3 : decide (40 < (l.length : Int)) = false := by simp; omega
  have hd1 : decide (20 < (c.ver.length : Int)) = false := by simp; omega
  have hd2 : decide (20 < (c.val.length : Int)) = true := by simp; omega
  go_enter Try.func5, Try.ntmps5
  go_wp2_with fail
  refine Hh.out.mono ?_
  rintro e w1 ⟨rfl, hO⟩
  obtain ⟨c0, c1, c2, c3, c4, c5, c6⟩ := cnCells hO
  clear Hh
  go_wp2_with fail
  go_ret
  exact ⟨rfl, hO.toBelow⟩
theorem AddGate_calls (W : World) (c : Cn) (vr vl : Value) (hc : c.Wf) (hm1 : c.ver.length ≤ maxLen) (hm2 : c.val.length ≤ maxLen) (hr : IntsAt W .u32 vr c.ver) (hv : IntsAt W .i32 vl c.val)
    (d : Int) (d0 : IntKind.i32.min ≤ d) (d1 : d ≤ IntKind.i32.max) (t : Int) (t0 : IntKind.u16.min ≤ t) (t1 : t ≤ IntKind.u16.max) (v : Value) (rows : List (List Int)) (hl : rows.length ≤ maxLen) (hr3 : ∀ r ∈ rows, r.length = 3)
    (hw : ∀ r ∈ rows, ∀ j, j < 3 → (Lit.int (([.i64, .i64, .i64] : List IntKind).getD j .i64) (r.getD j 0)).wf = true) (hvl : RowAt W v rows.length (rowsC [.i64, .i64, .i64] rows)) :
    Calls Try.prog 5 #[cnV c vr vl, .int .i32 d, .int .u16 t, v] W fun e w' => e = .returned (.bool true) ∧ Below W.heap.size W w' := by
  obtain ⟨pr, cr, rfl⟩ := hr.slice
  obtain ⟨pl, cl, rfl⟩ := hv.slice
  obtain ⟨hlen, hp, hx⟩ := pks_in hr3 hw hvl
  obtain ⟨pv, cv, rfl⟩ := hp.slice
  unfold maxLen at hm1 hm2 hl
  have hx := fun p hp => (hx p hp).2.2
  by_cases h0 : (pksOf rows).length ≤ 40
  · by_cases h1 : c.ver.length ≤ 20
    · by_cases h2 : c.val.length ≤ 20
      · exact AddGate_main W c pr pl cr cl hc h1 h2 hr hv d t _ pv cv d0 d1 t0 t1 hx hp h0
      · exact AddGate_big2 W c pr pl cr cl hc (by omega) (by omega) hr hv d t _ pv cv d0 d1 t0 t1 hx hp (by omega) h0 h1 (by omega)
    · exact AddGate_big1 W c pr pl cr cl hc (by omega) (by omega) hr hv d t _ pv cv d0 d1 t0 t1 hx hp (by omega) h0 (by omega)
  · exact AddGate_big0 W c pr pl cr cl hc (by omega) (by omega) hr hv d t _ pv cv d0 d1 t0 t1 hx hp (by omega) (by omega)
end Go.Proofs.Ytkciaegbiglfmaa
