/- AddTwo. -/
import Derived.Test.YtkciaegbiglfmaaAddBase
import Derived.Test.YtkciaegbiglfmaaAddPair
import Derived.Test.YtkciaegbiglfmaaLawB
namespace Go.Proofs.Ytkciaegbiglfmaa
open Go.ChangeShapes Go.WideShapes Go.ChangeAt Go.RowKit Go.Shelf
set_option linter.unusedVariables false
set_option maxRecDepth 100000
theorem step_flag {p : AP} {s : AS} {ws : List Int} {lg : List Acc} (hs : SOk p s) : (stepA p s ws lg).2.2.2 = ((stepA p s ws lg).1.at_ == 9) := by
  have := step_end (ws := ws) (lg := lg) hs
  by_cases h : (stepA p s ws lg).1.at_ = 9
  · rw [this.2 h]; simp [h]
  · have h2 : (stepA p s ws lg).2.2.2 = false := by
      cases hb : (stepA p s ws lg).2.2.2
      · rfl
      · exact absurd (this.1 hb) h
    rw [h2]; simp [h]
/-- One of two steps. -/
theorem Pair_go {W w : World} {L : List Asn} {b N n : Nat} {S g d e T : Int} {s1 s2 : AS} {ws : List Int} {lg : List Acc} (g1 m : Nat) (hp : AP.Ok ⟨b, S, g, d⟩) (hn : n ≤ 900000) (H : Pair b N S g d e T s1 s2 ws lg n)
    (h : Own W NoF (mchA g1 (stV ⟨b, S, g, d⟩ s1) :: memA 94 m ws lg :: L) w) :
    Calls Try.prog 27 #[.pointer (some ⟨g1, 0, none⟩), .pointer (some ⟨m, 0, none⟩)] w fun x w' => ∃ s' ws' lg', x = .returned (.bool (s'.at_ == 9)) ∧ Pair b N S g d e T s' s2 ws' lg' (n + 1) ∧ (s1.at_ ≠ 9 → mu ⟨b, S, g, d⟩ s' ws' < mu ⟨b, S, g, d⟩ s1 ws) ∧
      Own W NoF (mchA g1 (stV ⟨b, S, g, d⟩ s') :: memA 94 m ws' lg' :: L) w' := by
  have hw : WOk ⟨b, S, g, d⟩ ws := H.w.of rfl rfl rfl
  refine (add_steps g1 m _ ⟨b, S, g, d⟩ L s1 ws lg w ⟨hp, hw, H.h1, by have := H.lgn; omega⟩ h).mono ?_
  rintro x w' ⟨rfl, hO⟩
  simp only [addM] at hO ⊢
  exact ⟨_, _, _, by rw [step_flag H.h1], H.step hp, fun h9 => mu_step H.h1 h9, hO⟩
set_option maxHeartbeats 20000000 in
theorem AddTwo_main (W : World) (c : Cn) (pr pl : Option Addr) (cr cl : Nat) (hc : c.Wf) (hn1 : c.ver.length ≤ 20) (hn2 : c.val.length ≤ 20) (hr : IntsAt W .u32 (.slice pr c.ver.length cr) c.ver) (hv : IntsAt W .i32 (.slice pl c.val.length cl) c.val) (d e : Int) (zs : List Bool) (qz : Option Addr) (cz : Nat) (d0 : -2147483648 ≤ d) (d1 : d ≤ 2147483647) (e0 : -2147483648 ≤ e) (e1 : e ≤ 2147483647) (iz : BlsAt W (.slice qz zs.length cz) zs) (hz : zs.length ≤ 200) :
    Calls Try.prog 7 #[cnV c (.slice pr c.ver.length cr) (.slice pl c.val.length cl), .int .i32 d, .int .i32 e, .slice qz zs.length cz] W fun x w' => x = .returned (.bool true) ∧ Below W.heap.size W w' := by
  have hd3 : decide (200 < (zs.length : Int)) = false := by simp; omega
  have hd4 : decide (200 < zs.length) = false := by simp; omega
  have Hh := Lib.hid (head_any ((Own.start W).new (cnO c (.slice pr c.ver.length cr) (.slice pl c.val.length cl))))
  have HSz := fun w => Lib.hid (Size_any c (.slice pr c.ver.length cr) (.slice pl c.val.length cl) hc w)
  have HWs := fun L w h => Lib.hid (lWords2 (L := L) (w := w) c _ _ hc hn1 hn2 hr hv h)
  have hb := c.bE hc
  have hs := c.sE
  have hg := c.gE hc
  have hok := wlay_ok c hc (0)
  have hgl := wlay_get c c.s (Nat.le_refl _) c.b
  rw [if_pos rfl] at hgl
  have hwl := wlay_len c c.s
  have hg1 : (wlay c c.s).getD (c.b + 1) 0 = 0 := by rw [wlay_get c c.s (Nat.le_refl _), if_neg (by omega), if_neg (by omega), if_neg (by omega)]
  have hg2 : (wlay c c.s).getD (c.b + 2) 0 = 0 := by rw [wlay_get c c.s (Nat.le_refl _), if_neg (by omega), if_neg (by omega), if_neg (by omega)]
  have hp := fun x h0 h1 => cP_ok c hc x h0 h1
  have hl0 := hc.l0
  have hl1 := hc.l1
  simp only [cP] at hok hp
  rw [hb.1, hs.1, show c.ga % 40 + 1 = c.g from rfl] at HSz
  simp only [cnV] at HSz HWs ⊢
  unfold cnO at Hh
  generalize c.b = b at *
  generalize c.g = g at *
  generalize wlay c c.s = ws at *
  generalize c.s = s at *
  obtain ⟨-, hb⟩ := hb
  obtain ⟨-, hs0, hs1⟩ := hs
  have Hok := Lib.hid hok
  have Hp := Lib.hid hp
  have Hgl := Lib.hid (show -2147483648 ≤ ws.getD b 0 ∧ ws.getD b 0 ≤ 2147483647 by omega)
  have Hg1 := Lib.hid hg1
  have Hg2 := Lib.hid hg2
  have hd1 : decide (20 < (c.ver.length : Int)) = false := by simp; omega
  have hd2 : decide (20 < (c.val.length : Int)) = false := by simp; omega
  clear hok hgl hl0 hl1 hg1 hg2 hp
  go_enter Try.func7, Try.ntmps7
  go_wp2_with fail
  refine Hh.out.mono ?_
  rintro e w1 ⟨rfl, hO⟩
  obtain ⟨c0, c1, c2, c3, c4, c5, c6⟩ := cnCells hO
  have HO := Lib.hid hO
  clear Hh hO
  go_wp2_with fail
  refine (HSz _).out.mono ?_
  rintro e w2 ⟨rfl, hB⟩
  have hO := HO.out.below hB
  clear c0 c1 c2 c3 c4 c5 c6 HO HSz
  obtain ⟨c0, c1, c2, c3, c4, c5, c6⟩ := cnCells hO
  have H1 := HWs _ _ hO
  clear HWs hO
  go_wp2_with fail
  refine H1.out.mono ?_
  rintro e w3 ⟨vw, rfl, hO⟩
  have H2 := Lib.hid (laid_any (by omega) (by omega) hO)
  clear c0 c1 c2 c3 c4 c5 c6 H1 hO
  go_wp2_with fail
  refine H2.out.mono ?_
  rintro e w4 ⟨m, rfl, hO⟩
  have hO1 : Own W NoF [memA 94 m ws []] w4 := hO.under fun _ _ h => h.drop.drop
  have hP0 := Hp.out 0 (by decide) (by decide)
  have hsm := sumZ_small hP0 Hok.out (by have := Hgl.out; simp only; omega) (by have := Hgl.out; simp only; omega)
  have hsb := sumZ_bd hP0 Hok.out
  simp only at hsb
  have hgl := Hgl.out
  have H3 := addSum_any ⟨b, s, g, 0⟩ s rfl hs0 hs1 hP0.b (by simp only; omega) (by omega) Hok.out.wf hO1
  rw [hsm] at H3
  have Z0 : -5000000000 ≤ sumZ ⟨b, s, g, 0⟩ ws := by omega
  have Z1 : sumZ ⟨b, s, g, 0⟩ ws ≤ 5000000000 := by omega
  have H3' := Lib.hid H3
  clear H3 hO hO1 H2 hsm hsb hgl
  go_wp2_with fail
  refine H3'.out.mono ?_
  rintro x w5 ⟨rfl, hO⟩
  have hdd : -1048576 ≤ d.tmod 1048576 ∧ d.tmod 1048576 ≤ 1048576 := by have := tm_bd d 1048576 (by omega); omega
  have hee : -1048576 ≤ e.tmod 1048576 ∧ e.tmod 1048576 ≤ 1048576 := by have := tm_bd e 1048576 (by omega); omega
  have P1 := Lib.hid (Hp.out _ hdd.1 hdd.2)
  have P2 := Lib.hid (Hp.out _ hee.1 hee.2)
  have hA := fun w => Lib.hid (amount_any d d0 d1 w)
  have hE := fun w => Lib.hid (amount_any e e0 e1 w)
  have H0 : Pair b (b + 4 + s + 3) s g (d.tmod 1048576) (e.tmod 1048576) (sumZ ⟨b, s, g, 0⟩ ws + d.tmod 1048576 + e.tmod 1048576) (s0A 0) (s0A 1) ws [] 0 :=
    ⟨Hok.out, s0_ok 0 (by decide) (by decide), s0_ok 1 (by decide) (by decide), hwl, by simp, ⟨0, by simp [owed, s0A]⟩, ⟨0, by simp [busy, s0A, gapZ]; have h1 := Hg1.out; have h2 := Hg2.out; simp [List.getD] at h1 h2 ⊢; omega⟩⟩
  have HQ := Lib.hid H0
  clear H0
  generalize d.tmod 1048576 = dd at *
  generalize e.tmod 1048576 = ee at *
  have HN := Lib.hid (addNew_any ⟨b, s, g, dd⟩ 0 (by decide) (by decide) hO)
  clear H3' hO
  go_wp2_with fail
  refine (hA _).out.mono ?_
  rintro x w6 ⟨rfl, rfl⟩
  go_wp2_with fail
  refine HN.out.mono ?_
  rintro x w6 ⟨g1, rfl, hO⟩
  have HN := Lib.hid (addNew_any ⟨b, s, g, ee⟩ 1 (by decide) (by decide) hO)
  clear hO
  go_wp2_with fail
  refine (hE _).out.mono ?_
  rintro x w7 ⟨rfl, rfl⟩
  go_wp2_with fail
  refine HN.out.mono ?_
  rintro x w7 ⟨g2, rfl, hO⟩
  have hO : Own W NoF [mchA g1 (stV ⟨b, s, g, dd⟩ (s0A 0)), mchA g2 (stV ⟨b, s, g, ee⟩ (s0A 1)), memA 94 m ws []] w7 := hO.swap
  obtain ⟨T, hT⟩ : ∃ T, T = sumZ ⟨b, s, g, 0⟩ ws + dd + ee := ⟨_, rfl⟩
  rw [← hT] at HQ
  generalize sumZ ⟨b, s, g, 0⟩ ws = S0 at *
  have HO := Lib.hid hO
  clear HN hO hwl Hgl Hg1 Hg2 Hok Hp
  go_wp2_with fail
  go_loopw [18, 19, 20] (fun v18 v19 v20 wr => ∃ (k : Nat) (s1 s2 : AS) (ws : List Int) (lg : List Acc), k ≤ zs.length ∧ v18 = .bool (s1.at_ == 9) ∧ v19 = .bool (s2.at_ == 9) ∧ v20 = .int .i64 k ∧ Pair b (b + 4 + s + 3) s g dd ee T s1 s2 ws lg k ∧ Own W NoF [mchA g1 (stV ⟨b, s, g, dd⟩ s1), mchA g2 (stV ⟨b, s, g, ee⟩ s2), memA 94 m ws lg] wr) (fun v18 v19 v20 _ => zs.length - (intOf v20).toNat)
  case atStart => exact ⟨0, _, _, ws, [], Nat.zero_le _, rfl, rfl, rfl, HQ.out, HO.out⟩
  case round =>
    obtain ⟨k, s1, s2, ws, lg, hk, rfl, rfl, rfl, hPr, hO⟩ := hrel
    have HP := Lib.hid hPr
    clear HO HQ hPr
    by_cases hlt : k < zs.length
    · obtain ⟨bz, oz, cz1, ez, hzc⟩ := iz.at (by omega)
      injection ez with ez _ ez2
      subst ez ez2
      have xz := hzc k hlt
      clear hzc
      generalize zs.getD k false = x at xz
      have c1 := Stp.cell hO.toBelow xz
      have HO := Lib.hid hO
      clear hO
      cases x with
      | true =>
        by_cases h9 : s1.at_ = 9
        · have f1 : (s1.at_ == 9) = true := by simp [h9]
          rw [f1]
          clear h9
          go_wp2_with fail
          go_roundw
          case rel => exact ⟨k + 1, s1, s2, ws, lg, by omega, by rw [f1], rfl, by go_num, HP.out.more, HO.out⟩
          case measure => simp [intOf]; omega
        · have f1 : (s1.at_ == 9) = false := by simp [h9]
          have HG := Lib.hid (Pair_go g1 m P1.out (by omega) HP.out (HO.out.under fun _ _ h => h.swap))
          rw [f1]
          clear h9 HO
          go_wp2_with fail
          refine HG.out.mono ?_
          rintro x w8 ⟨s', ws', lg', rfl, hPr, -, hO⟩
          have c2 := Stp.cell hO.toBelow xz
          have HP2 := Lib.hid hPr
          have HO := Lib.hid (show Own W NoF [mchA g1 (stV ⟨b, s, g, dd⟩ s'), mchA g2 (stV ⟨b, s, g, ee⟩ s2), memA 94 m ws' lg'] w8 from hO.under fun _ _ h => h.swap)
          clear hPr hO HG c1 f1
          go_wp2_with fail
          go_roundw
          case rel => exact ⟨k + 1, s', s2, ws', lg', by omega, rfl, rfl, by go_num, HP2.out, HO.out⟩
          case measure => simp [intOf]; omega
      | false =>
        by_cases h9 : s2.at_ = 9
        · have f1 : (s2.at_ == 9) = true := by simp [h9]
          rw [f1]
          clear h9
          go_wp2_with fail
          go_roundw
          case rel => exact ⟨k + 1, s1, s2, ws, lg, by omega, rfl, by rw [f1], by go_num, HP.out.more, HO.out⟩
          case measure => simp [intOf]; omega
        · have f1 : (s2.at_ == 9) = false := by simp [h9]
          have HG := Lib.hid (Pair_go g2 m P2.out (by omega) HP.out.swap (HO.out.swap.under fun _ _ h => h.swap))
          rw [f1]
          clear h9 HO
          go_wp2_with fail
          refine HG.out.mono ?_
          rintro x w8 ⟨s', ws', lg', rfl, hPr, -, hO⟩
          have HP2 := Lib.hid hPr.swap
          have HO := Lib.hid (show Own W NoF [mchA g1 (stV ⟨b, s, g, dd⟩ s1), mchA g2 (stV ⟨b, s, g, ee⟩ s'), memA 94 m ws' lg'] w8 from hO.p2)
          clear hPr hO HG c1 f1
          go_wp2_with fail
          go_roundw
          case rel => exact ⟨k + 1, s1, s', ws', lg', by omega, rfl, rfl, by go_num, HP2.out, HO.out⟩
          case measure => simp [intOf]; omega
    · have hkz : k = zs.length := by omega
      subst hkz
      have HO := Lib.hid hO
      clear hO hlt hk iz
      obtain ⟨K, hK⟩ : ∃ K, K = zs.length := ⟨_, rfl⟩
      have hK2 : K ≤ 200 := by omega
      rw [← hK] at HP
      go_wp2_with fail
      go_loopw [18, 21] (fun v18 v21 wr => ∃ (n : Nat) (s1 : AS) (ws : List Int) (lg : List Acc), v18 = .bool (s1.at_ == 9) ∧ v21 = .int .i64 n ∧ n + mu ⟨b, s, g, dd⟩ s1 ws ≤ 10 ∧ Pair b (b + 4 + s + 3) s g dd ee T s1 s2 ws lg (K + n) ∧ Own W NoF [mchA g1 (stV ⟨b, s, g, dd⟩ s1), mchA g2 (stV ⟨b, s, g, ee⟩ s2), memA 94 m ws lg] wr) (fun v18 v21 _ => 100 - (intOf v21).toNat)
      case atStart => exact ⟨0, s1, ws, lg, rfl, rfl, by have := mu_le (p := ⟨b, s, g, dd⟩) (s := s1) (ws := ws); omega, HP.out, HO.out⟩
      case round =>
        clear HP HO
        obtain ⟨n, s1, ws, lg, rfl, rfl, hmu, hPr, hO⟩ := hrel
        have HP := Lib.hid hPr
        have HO := Lib.hid hO
        by_cases h9 : s1.at_ = 9
        · have f1 : (s1.at_ == 9) = true := by simp [h9]
          have hn10 : n ≤ 10 := by omega
          have HP := Lib.hid (hPr.mono (show K + n ≤ 210 by omega))
          have H9 := Lib.hid h9
          rw [f1]
          clear h9 hPr hO hmu f1
          go_wp2_with fail
          go_loopw [19, 22] (fun v19 v22 wr => ∃ (n : Nat) (s2 : AS) (ws : List Int) (lg : List Acc), v19 = .bool (s2.at_ == 9) ∧ v22 = .int .i64 n ∧ n + mu ⟨b, s, g, ee⟩ s2 ws ≤ 10 ∧ Pair b (b + 4 + s + 3) s g dd ee T s1 s2 ws lg (210 + n) ∧ Own W NoF [mchA g1 (stV ⟨b, s, g, dd⟩ s1), mchA g2 (stV ⟨b, s, g, ee⟩ s2), memA 94 m ws lg] wr) (fun v19 v22 _ => 100 - (intOf v22).toNat)
          case atStart => exact ⟨0, s2, ws, lg, rfl, rfl, by have := mu_le (p := ⟨b, s, g, ee⟩) (s := s2) (ws := ws); omega, HP.out, HO.out⟩
          case round =>
            clear HP HO
            obtain ⟨n, s2, ws, lg, rfl, rfl, hmu, hPr, hO⟩ := hrel
            have HP := Lib.hid hPr
            have HO := Lib.hid hO
            by_cases h9 : s2.at_ = 9
            · have f1 : (s2.at_ == 9) = true := by simp [h9]
              have hn10 : n ≤ 10 := by omega
              have hS := hPr.sum_end H9.out h9 (by omega) (by omega)
              have hgp := hPr.gap_end H9.out h9
              have hwf := Lib.hid hPr.w.wf
              have hln := hPr.len
              have H10 := Lib.hid (Words_any (by omega) hO.p2)
              rw [f1]
              clear h9 hPr hO hmu f1 HP HO
              go_wp2_with fail
              refine H10.out.mono ?_
              rintro x w9 ⟨v9, rfl, hO⟩
              obtain ⟨b9, o9, q9, hv9, hc9⟩ := hO.intsAt.at (by omega)
              have y1 := hc9 (b + 1) (by omega)
              have y2 := hc9 (b + 2) (by omega)
              rw [hgp] at y1
              rw [hln] at hv9
              subst hv9
              generalize ws.getD (b + 2) 0 = q at y1 y2
              have HSum := fun d os => Calls.regrown_of (addSum_b ⟨b, s, g, 0⟩ s rfl hs0 hs1 hP0.b (by simp only; omega) (by omega) hwf.out (hO.swap.below (below_regrown _ d os)))
              rw [hS, hT] at HSum
              have HSumx := Lib.hid HSum
              have hAm := fun d os => Calls.regrown_of (w := w9) (d := d) (os := os) ((hA _).out.mono fun e w' ⟨a, b⟩ => ⟨a, by subst b; exact Below.refl _ _⟩)
              have HAm := Lib.hid hAm
              have hEm := fun d os => Calls.regrown_of (w := w9) (d := d) (os := os) ((hE _).out.mono fun e w' ⟨a, b⟩ => ⟨a, by subst b; exact Below.refl _ _⟩)
              have HEm := Lib.hid hEm
              have fL : decide ((b : Int) + 4 ≤ ((b + 4 + s + 3 : Nat) : Int)) = true := by simp; omega
              have fL2 : decide ((b : Int) + 4 ≤ (b : Int) + 4 + (s : Int) + 3) = true := by simp; omega
              have k1 := cell_regrown y1
              have k2 := cell_regrown y2
              have HO3 := Lib.hid (show Stp W w9 from hO.toBelow)
              clear HSum hAm hEm hO hc9 y1 y2 H10 hwf hgp hS
              go_wp2_with fail
              try dsimp only [List.append]
              refine wp_region_quiet_below (by kernel_rfl) (by kernel_rfl) ?_
              repeat (go_big_quiet_step ((first | (go_at_call 23; exact HSumx.out _ _) | (go_at_call 15; first | exact HAm.out _ _ | exact HEm.out _ _))))
              refine wpQuiet_nil ?_
              intro _ hw'
              obtain ⟨⟨dq, osq⟩, hw''⟩ := hw'
              subst hw''
              clear k1 k2
              go_wp2_with fail
              go_ret
              exact ⟨rfl, HO3.out.trans (below_regrown _ dq osq)⟩
            · have f1 : (s2.at_ == 9) = false := by simp [h9]
              have hm0 : mu ⟨b, s, g, ee⟩ s2 ws ≠ 0 := fun h => h9 (mu_zero hPr.h2 h)
              have HG := Lib.hid (Pair_go g2 m P2.out (by omega) hPr.swap (hO.swap.under fun _ _ h => h.swap))
              have hn10 : n < 10 := by omega
              have H99 := Lib.hid h9
              rw [f1]
              clear h9 HO hO hPr HP
              go_wp2_with fail
              refine HG.out.mono ?_
              rintro x w8 ⟨s', ws', lg', rfl, hPr, hmm, hO⟩
              have hm1 := hmm H99.out
              have HP2 := Lib.hid hPr.swap
              have HO := Lib.hid (show Own W NoF [mchA g1 (stV ⟨b, s, g, dd⟩ s1), mchA g2 (stV ⟨b, s, g, ee⟩ s'), memA 94 m ws' lg'] w8 from hO.p2)
              clear hPr hO HG f1 hmm
              go_wp2_with fail
              go_roundw
              case rel => exact ⟨n + 1, s', ws', lg', rfl, by go_num, by omega, HP2.out, HO.out⟩
              case measure => simp [intOf]; omega
        · have f1 : (s1.at_ == 9) = false := by simp [h9]
          have hm0 : mu ⟨b, s, g, dd⟩ s1 ws ≠ 0 := fun h => h9 (mu_zero hPr.h1 h)
          have HG := Lib.hid (Pair_go g1 m P1.out (by omega) hPr (hO.under fun _ _ h => h.swap))
          have hn10 : n < 10 := by omega
          have H99 := Lib.hid h9
          rw [f1]
          clear h9 HO hO hPr HP
          go_wp2_with fail
          refine HG.out.mono ?_
          rintro x w8 ⟨s', ws', lg', rfl, hPr, hmm, hO⟩
          have hm1 := hmm H99.out
          have HP2 := Lib.hid hPr
          have HO := Lib.hid (show Own W NoF [mchA g1 (stV ⟨b, s, g, dd⟩ s'), mchA g2 (stV ⟨b, s, g, ee⟩ s2), memA 94 m ws' lg'] w8 from hO.under fun _ _ h => h.swap)
          clear hPr hO HG f1 hmm
          go_wp2_with fail
          go_roundw
          case rel => exact ⟨n + 1, s', ws', lg', rfl, by go_num, by omega, HP2.out, HO.out⟩
          case measure => simp [intOf]; omega
theorem AddTwo_big0 (W : World) (c : Cn) (pr pl : Option Addr) (cr cl : Nat) (hc : c.Wf) (hm1 : c.ver.length ≤ 9223372036854775807) (hm2 : c.val.length ≤ 9223372036854775807) (hr : IntsAt W .u32 (.slice pr c.ver.length cr) c.ver) (hv : IntsAt W .i32 (.slice pl c.val.length cl) c.val) (d e : Int) (zs : List Bool) (qz : Option Addr) (cz : Nat) (d0 : -2147483648 ≤ d) (d1 : d ≤ 2147483647) (e0 : -2147483648 ≤ e) (e1 : e ≤ 2147483647) (iz : BlsAt W (.slice qz zs.length cz) zs) (h : 200 < zs.length) (hz : zs.length ≤ 9223372036854775807) :
    Calls Try.prog 7 #[cnV c (.slice pr c.ver.length cr) (.slice pl c.val.length cl), .int .i32 d, .int .i32 e, .slice qz zs.length cz] W fun x w' => x = .returned (.bool true) ∧ Below W.heap.size W w' := by
  have Hh := Lib.hid (head_any ((Own.start W).new (cnO c (.slice pr c.ver.length cr) (.slice pl c.val.length cl))))
  unfold cnV
  have hd3 : decide (200 < (zs.length : Int)) = true := by simp; omega
  go_enter Try.func7, Try.ntmps7
  go_wp2_with fail
  refine Hh.out.mono ?_
  rintro e w1 ⟨rfl, hO⟩
  obtain ⟨c0, c1, c2, c3, c4, c5, c6⟩ := cnCells hO
  clear Hh
  go_wp2_with fail
  go_ret
  exact ⟨rfl, hO.toBelow⟩
theorem AddTwo_big1 (W : World) (c : Cn) (pr pl : Option Addr) (cr cl : Nat) (hc : c.Wf) (hm1 : c.ver.length ≤ 9223372036854775807) (hm2 : c.val.length ≤ 9223372036854775807) (hr : IntsAt W .u32 (.slice pr c.ver.length cr) c.ver) (hv : IntsAt W .i32 (.slice pl c.val.length cl) c.val) (d e : Int) (zs : List Bool) (qz : Option Addr) (cz : Nat) (d0 : -2147483648 ≤ d) (d1 : d ≤ 2147483647) (e0 : -2147483648 ≤ e) (e1 : e ≤ 2147483647) (iz : BlsAt W (.slice qz zs.length cz) zs) (h0 : zs.length ≤ 200) (h : 20 < c.ver.length) :
    Calls Try.prog 7 #[cnV c (.slice pr c.ver.length cr) (.slice pl c.val.length cl), .int .i32 d, .int .i32 e, .slice qz zs.length cz] W fun x w' => x = .returned (.bool true) ∧ Below W.heap.size W w' := by
  have Hh := Lib.hid (head_any ((Own.start W).new (cnO c (.slice pr c.ver.length cr) (.slice pl c.val.length cl))))
  unfold cnV
  have hd3 : decide (200 < (zs.length : Int)) = false := by simp; omega
  have hd1 : decide (20 < (c.ver.length : Int)) = true := by simp; omega
  go_enter Try.func7, Try.ntmps7
  go_wp2_with fail
  refine Hh.out.mono ?_
  rintro e w1 ⟨rfl, hO⟩
  obtain ⟨c0, c1, c2, c3, c4, c5, c6⟩ := cnCells hO
  clear Hh
  go_wp2_with fail
  go_ret
  exact ⟨rfl, hO.toBelow⟩
theorem AddTwo_big2 (W : World) (c : Cn) (pr pl : Option Addr) (cr cl : Nat) (hc : c.Wf) (hm1 : c.ver.length ≤ 9223372036854775807) (hm2 : c.val.length ≤ 9223372036854775807) (hr : IntsAt W .u32 (.slice pr c.ver.length cr) c.ver) (hv : IntsAt W .i32 (.slice pl c.val.length cl) c.val) (d e : Int) (zs : List Bool) (qz : Option Addr) (cz : Nat) (d0 : -2147483648 ≤ d) (d1 : d ≤ 2147483647) (e0 : -2147483648 ≤ e) (e1 : e ≤ 2147483647) (iz : BlsAt W (.slice qz zs.length cz) zs) (h0 : zs.length ≤ 200) (h1 : c.ver.length ≤ 20) (h : 20 < c.val.length) :
    Calls Try.prog 7 #[cnV c (.slice pr c.ver.length cr) (.slice pl c.val.length cl), .int .i32 d, .int .i32 e, .slice qz zs.length cz] W fun x w' => x = .returned (.bool true) ∧ Below W.heap.size W w' := by
  have Hh := Lib.hid (head_any ((Own.start W).new (cnO c (.slice pr c.ver.length cr) (.slice pl c.val.length cl))))
  unfold cnV
  have hd3 : decide (200 < (zs.length : Int)) = false := by simp; omega
  have hd1 : decide (20 < (c.ver.length : Int)) = false := by simp; omega
  have hd2 : decide (20 < (c.val.length : Int)) = true := by simp; omega
  go_enter Try.func7, Try.ntmps7
  go_wp2_with fail
  refine Hh.out.mono ?_
  rintro e w1 ⟨rfl, hO⟩
  obtain ⟨c0, c1, c2, c3, c4, c5, c6⟩ := cnCells hO
  clear Hh
  go_wp2_with fail
  go_ret
  exact ⟨rfl, hO.toBelow⟩
theorem AddTwo_calls (W : World) (c : Cn) (vr vl : Value) (hc : c.Wf) (hm1 : c.ver.length ≤ maxLen) (hm2 : c.val.length ≤ maxLen) (hr : IntsAt W .u32 vr c.ver) (hv : IntsAt W .i32 vl c.val)
    (d : Int) (d0 : IntKind.i32.min ≤ d) (d1 : d ≤ IntKind.i32.max) (e : Int) (e0 : IntKind.i32.min ≤ e) (e1 : e ≤ IntKind.i32.max) (v : Value) (zs : List Bool) (hz : zs.length ≤ maxLen) (iz : BlsAt W v zs) :
    Calls Try.prog 7 #[cnV c vr vl, .int .i32 d, .int .i32 e, v] W fun x w' => x = .returned (.bool true) ∧ Below W.heap.size W w' := by
  obtain ⟨pr, cr, rfl⟩ := hr.slice
  obtain ⟨pl, cl, rfl⟩ := hv.slice
  obtain ⟨qz, cz, rfl⟩ := iz.slice
  unfold maxLen at hm1 hm2 hz
  by_cases h0 : zs.length ≤ 200
  · by_cases h1 : c.ver.length ≤ 20
    · by_cases h2 : c.val.length ≤ 20
      · exact AddTwo_main W c pr pl cr cl hc h1 h2 hr hv d e zs qz cz d0 d1 e0 e1 iz h0
      · exact AddTwo_big2 W c pr pl cr cl hc (by omega) (by omega) hr hv d e zs qz cz d0 d1 e0 e1 iz h0 h1 (by omega)
    · exact AddTwo_big1 W c pr pl cr cl hc (by omega) (by omega) hr hv d e zs qz cz d0 d1 e0 e1 iz h0 (by omega)
  · exact AddTwo_big0 W c pr pl cr cl hc (by omega) (by omega) hr hv d e zs qz cz d0 d1 e0 e1 iz (by omega) (by omega)
end Go.Proofs.Ytkciaegbiglfmaa
