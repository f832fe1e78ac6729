/- AddRow. -/
import Derived.Test.YtkciaegbiglfmaaAddBase
namespace Go.Proofs.Ytkciaegbiglfmaa
open Go.ChangeShapes Go.WideShapes Go.ChangeAt Go.RowKit Go.Shelf
set_option linter.unusedVariables false
set_option maxRecDepth 100000
theorem strN_gap {p : AP} {ws : List Int} (hw : WOk p ws) : ∀ n : Nat, (n : Int) ≤ p.S → -(n * (p.g - 1) : Int) ≤ strN p.b ws n ∧ strN p.b ws n ≤ n * (p.g - 1)
  | 0, _ => by simp [strN]
  | n + 1, h => by
    have ih := strN_gap hw n (by omega)
    have := hw.gate n (by omega)
    have e : ((n + 1 : Nat) : Int) * (p.g - 1) = n * (p.g - 1) + (p.g - 1) := by rw [Int.natCast_add, Int.add_mul]; simp
    rw [strN, e]; omega
set_option maxHeartbeats 20000000 in
theorem AddRow_main (W : World) (c : Cn) (pr pl : Option Addr) (cr cl : Nat) (hc : c.Wf) (hn1 : c.ver.length ≤ 20) (hn2 : c.val.length ≤ 20) (hr : IntsAt W .u32 (.slice pr c.ver.length cr) c.ver) (hv : IntsAt W .i32 (.slice pl c.val.length cl) c.val) (zs ts : List Int) (qz qt : Option Addr) (cz ct : Nat) (wz : ∀ n ∈ zs, (Lit.int .i32 n).wf = true) (wt : ∀ n ∈ ts, (Lit.int .u16 n).wf = true) (iz : IntsAt W .i32 (.slice qz zs.length cz) zs) (it : IntsAt W .u16 (.slice qt ts.length ct) ts) (hz40 : zs.length ≤ 40) (hzt : zs.length ≤ ts.length) :
    Calls Try.prog 6 #[cnV c (.slice pr c.ver.length cr) (.slice pl c.val.length cl), .slice qz zs.length cz, .slice qt ts.length ct] W fun e w' => e = .returned (.bool true) ∧ Below W.heap.size W w' := by
  have hl40 : zs.length ≤ 40 := hz40
  have hd3 : decide (40 < (zs.length : Int)) = false := by simp; omega
  have hd4 : decide ((ts.length : Int) < (zs.length : Int)) = false := by simp; omega
  have hd5 : decide (ts.length < zs.length) = false := by simp; omega
  have Hh := Lib.hid (head_any ((Own.start W).new (cnO c (.slice pr c.ver.length cr) (.slice pl c.val.length cl))))
  have HSz := fun w => Lib.hid (Size_any c (.slice pr c.ver.length cr) (.slice pl c.val.length cl) hc w)
  have HWs := fun L w h => Lib.hid (lWords2 (L := L) (w := w) c _ _ hc hn1 hn2 hr hv h)
  have hb := c.bE hc
  have hs := c.sE
  have hg := c.gE hc
  have hok := wlay_ok c hc (0)
  have hgl := wlay_get c c.s (Nat.le_refl _) c.b
  rw [if_pos rfl] at hgl
  have hwl := wlay_len c c.s
  have hg1 : (wlay c c.s).getD (c.b + 1) 0 = 0 := by rw [wlay_get c c.s (Nat.le_refl _), if_neg (by omega), if_neg (by omega), if_neg (by omega)]
  have hg2 : (wlay c c.s).getD (c.b + 2) 0 = 0 := by rw [wlay_get c c.s (Nat.le_refl _), if_neg (by omega), if_neg (by omega), if_neg (by omega)]
  have hp := fun x h0 h1 => cP_ok c hc x h0 h1
  have hl0 := hc.l0
  have hl1 := hc.l1
  simp only [cP] at hok hp
  rw [hb.1, hs.1, show c.ga % 40 + 1 = c.g from rfl] at HSz
  simp only [cnV] at HSz HWs ⊢
  unfold cnO at Hh
  generalize c.b = b at *
  generalize c.g = g at *
  generalize wlay c c.s = ws at *
  generalize c.s = s at *
  obtain ⟨-, hb⟩ := hb
  obtain ⟨-, hs0, hs1⟩ := hs
  have Hok := Lib.hid hok
  have Hp := Lib.hid hp
  have Hgl := Lib.hid (show -2147483648 ≤ ws.getD b 0 ∧ ws.getD b 0 ≤ 2147483647 by omega)
  have Hg1 := Lib.hid hg1
  have Hg2 := Lib.hid hg2
  have hd1 : decide (20 < (c.ver.length : Int)) = false := by simp; omega
  have hd2 : decide (20 < (c.val.length : Int)) = false := by simp; omega
  clear hok hgl hl0 hl1 hg1 hg2 hp
  go_enter Try.func6, Try.ntmps6
  go_wp2_with fail
  refine Hh.out.mono ?_
  rintro e w1 ⟨rfl, hO⟩
  obtain ⟨c0, c1, c2, c3, c4, c5, c6⟩ := cnCells hO
  have HO := Lib.hid hO
  clear Hh hO
  go_wp2_with fail
  refine (HSz _).out.mono ?_
  rintro e w2 ⟨rfl, hB⟩
  have hO := HO.out.below hB
  clear c0 c1 c2 c3 c4 c5 c6 HO HSz
  obtain ⟨c0, c1, c2, c3, c4, c5, c6⟩ := cnCells hO
  have H1 := HWs _ _ hO
  clear HWs hO
  go_wp2_with fail
  refine H1.out.mono ?_
  rintro e w3 ⟨vw, rfl, hO⟩
  have H2 := Lib.hid (laid_any (by omega) (by omega) hO)
  clear c0 c1 c2 c3 c4 c5 c6 H1 hO
  go_wp2_with fail
  refine H2.out.mono ?_
  rintro e w4 ⟨m, rfl, hO⟩
  have hO1 : Own W NoF [memA 94 m ws []] w4 := hO.under fun _ _ h => h.drop.drop
  have hP0 := Hp.out 0 (by decide) (by decide)
  have Hgl1 : -1000000000000 ≤ ws.getD b 0 := by have := Hgl.out; omega
  have Hgl2 : ws.getD b 0 ≤ 1000000000000 := by have := Hgl.out; omega
  have hsm := sumZ_small hP0 Hok.out Hgl1 Hgl2
  have H3 := addSum_any ⟨b, s, g, 0⟩ s rfl hs0 hs1 hP0.b (by simp only; omega) (by omega) Hok.out.wf hO1
  rw [hsm] at H3
  have H3' := Lib.hid H3
  clear H3 hO hO1 H2 hsm
  go_wp2_with fail
  refine H3'.out.mono ?_
  rintro e w5 ⟨rfl, hO⟩
  have HO := Lib.hid hO
  clear H3' hO
  go_wp2_with fail
  go_loopw [13, 14, 15, 16, 17, 18] (fun v13 v14 v15 v16 v17 v18 wr => ∃ (k : Nat) (ws : List Int) (lg : List Acc), k ≤ zs.length ∧ v14 = .int .i64 k ∧ v13 = .int .i64 (sumZ ⟨b, s, g, 0⟩ ws) ∧ WOk ⟨b, s, g, 0⟩ ws ∧ ws.length = b + 4 + s + 3 ∧ -(2147483648 + 2097152 * k : Int) ≤ ws.getD b 0 ∧ ws.getD b 0 ≤ 2147483648 + 2097152 * k ∧ lg.length ≤ 6 * k ∧ Own W NoF [memA 94 m ws lg] wr) (fun v13 v14 v15 v16 v17 v18 _ => zs.length - (intOf v14).toNat)
  case atStart => exact ⟨0, ws, [], Nat.zero_le _, rfl, rfl, Hok.out, hwl, by have := Hgl.out; omega, by have := Hgl.out; omega, by simp, HO.out⟩
  case round =>
    obtain ⟨k, ws, lg, hk, rfl, rfl, hW, hlen, hq0, hq1, hlg, hO⟩ := hrel
    clear HO hwl Hgl Hg1 Hg2 Hok Hgl1 Hgl2
    by_cases hlt : k < zs.length
    · obtain ⟨bz, oz, cz1, ez, hz⟩ := iz.at (by omega)
      obtain ⟨bt, ot, ct1, et, ht⟩ := it.at (by omega)
      injection ez with ez _ ez2
      injection et with et _ et2
      subst ez et ez2 et2
      have xz := hz k hlt
      have xt := ht k (by omega)
      have vx := law_wf (wz (zs.getD k 0) (by simp [List.getD, hlt]))
      have vy := law_wf (wt (ts.getD k 0) (by simp [List.getD, show k < ts.length by omega]))
      simp only [IntKind.min, IntKind.max, IntKind.bits, IntKind.signed] at vx vy
      clear hz ht wz wt
      generalize zs.getD k 0 = x at xz vx
      generalize ts.getD k 0 = y at xt vy
      have x0 : -2147483648 ≤ x := by simpa using vx.1
      have x1 : x ≤ 2147483647 := by simpa using vx.2
      have y0 : 0 ≤ y := by simpa using vy.1
      have y1 : y ≤ 65535 := by simpa using vy.2
      clear vx vy
      have hdd : -1048576 ≤ x.tmod 1048576 ∧ x.tmod 1048576 ≤ 1048576 := by have := tm_bd x 1048576 (by omega); omega
      have hP := Hp.out _ hdd.1 hdd.2
      have hA := fun w => Lib.hid (amount_any x x0 x1 w)
      generalize x.tmod 1048576 = dd at *
      have hWd : WOk ⟨b, s, g, dd⟩ ws := hW.of rfl rfl rfl
      have hbz := sumZ_bd hP0 hW
      simp only at hbz
      have ey : (IntKind.i64.wrap y).tmod 1001 = y % 1001 := by rw [IntWalk.i64_in y (by omega), Int.tmod_eq_emod_of_nonneg y0]
      have t0 : 0 ≤ (IntKind.i64.wrap y).tmod 1001 := by rw [ey]; omega
      have t1 : (IntKind.i64.wrap y).tmod 1001 ≤ 1000 := by rw [ey]; omega
      clear ey
      have HN := fun w h => Lib.hid (addNew_any (w0 := W) (F0 := NoF) (L := [memA 94 m ws lg]) (w := w) ⟨b, s, g, dd⟩ ((IntKind.i64.wrap y).tmod 1001) t0 t1 h)
      simp only at HN
      have HPl := fun g1 w h => Lib.hid (Play_alone (w0 := W) (F0 := NoF) (L := []) (w := w) (ws := ws) (lg := lg) g1 m ⟨b, s, g, dd⟩ ((IntKind.i64.wrap y).tmod 1001) 20 t0 t1 (by decide) (by decide) hP hWd (by omega) h)
      have hkt : k < ts.length := by omega
      have hkt2 : (k : Int) < (ts.length : Int) := by omega
      have hkz2 : (k : Int) < (zs.length : Int) := by omega
      have c1 := Stp.cell hO.toBelow xz
      have c2 := Stp.cell hO.toBelow xt
      have hO1 := hO.drew
      have hW0 := hW
      clear hO
      go_wp2_with fail
      go_region_held3 (fun w' => w'.cell? ⟨bz, oz + k, none⟩ = some (.int .i32 x) ∧ w'.cell? ⟨bt, ot + k, none⟩ = some (.int .u16 y)) (go_keep)
        (first
          | (go_at_call 15; refine (hA _).out.mono ?_; rintro e w6 ⟨rfl, rfl⟩)
          | (go_at_call 14; refine (HN _ (by with_reducible assumption)).out.mono ?_; rintro e w7 ⟨g1, rfl, hO⟩; have c3 := Stp.cell hO.toBelow xz; have c4 := Stp.cell hO.toBelow xt)
          | (go_at_call 17; refine (HPl _ _ (by with_reducible assumption)).out.mono ?_; rintro e w8 ⟨n, ws', lg', rfl, hAl, hl', hO2⟩; have HAl := Lib.hid hAl; clear hAl; have c5 := Stp.cell hO2.toBelow xz; have c6 := Stp.cell hO2.toBelow xt))
      all_goals
        have hA2 := HAl.out
        have hlen' : ws'.length = b + 4 + s + 3 := by rw [hA2.len, hlen]
        have hlg' : lg'.length ≤ 6 * (k + 1) := by have := hA2.n36; omega
        have hqb : -(2147483648 + 2097152 * ((k + 1 : Nat) : Int)) ≤ ws'.getD b 0 ∧ ws'.getD b 0 ≤ 2147483648 + 2097152 * ((k + 1 : Nat) : Int) := by
          rcases hA2.n36 with hn | hn
          · have := hA2.glob hn
            simp only at this
            rw [this]; omega
          · obtain ⟨u, u0, u1, hu⟩ := hA2.globn hn
            simp only at hu
            rw [hu]; unfold wrap64; omega
        have hW' : WOk ⟨b, s, g, 0⟩ ws' := hA2.ok.of rfl rfl rfl
        have hb' := sumZ_bd hP0 hW'
        simp only at hb'
        have hS1 : sumZ ⟨b, s, g, 0⟩ ws' = sumZ ⟨b, s, g, 0⟩ ws + dd := by
          obtain ⟨q, hq⟩ := hA2.sum
          have e1 : sumZ ⟨b, s, g, dd⟩ ws' = sumZ ⟨b, s, g, 0⟩ ws' := rfl
          have e2 : sumZ ⟨b, s, g, dd⟩ ws = sumZ ⟨b, s, g, 0⟩ ws := rfl
          rw [e1, e2] at hq
          simp only at hq
          omega
        have hS2 : wrap64 (sumZ ⟨b, s, g, 0⟩ ws') = sumZ ⟨b, s, g, 0⟩ ws' := sumZ_small hP0 hW' (by simp only; omega) (by simp only; omega)
        have hgap := strN_gap hW' s (by simp only; omega)
        have hgap2 : sumZ ⟨b, s, g, 0⟩ ws' = ws'.getD b 0 + strN b ws' s := by unfold sumZ; simp only [Int.toNat_natCast]
        simp only at hgap
        obtain ⟨M, hM⟩ : ∃ M, (s : Int) * (g - 1) = M := ⟨_, rfl⟩
        have hM2 : -(s : Int) * (g - 1) = -M := by rw [Int.neg_mul, hM]
        have hM0 : 0 ≤ M := by rw [← hM]; exact Int.mul_nonneg (by omega) (by omega)
        have hM1 : M ≤ 400 := by
          rw [← hM]
          have := Int.mul_le_mul (show (s : Int) ≤ 8 by omega) (show g - 1 ≤ 40 by omega) (by omega) (by omega)
          omega
        rw [hM] at hgap
        have hMg : g = 1 → M = 0 := fun h => by rw [← hM, h]; simp
        have HS := fun w L (h : Own W NoF (memA 94 m ws' lg' :: L) w) => Lib.hid (addSum_any ⟨b, s, g, 0⟩ s rfl hs0 hs1 hP0.b (by simp only; omega) (by omega) hW'.wf h)
        rw [hS2, hS1] at HS
        have HW' := Lib.hid hW'
        have Z0 : -10000000000 ≤ sumZ ⟨b, s, g, 0⟩ ws := by omega
        have Z1 : sumZ ⟨b, s, g, 0⟩ ws ≤ 10000000000 := by omega
        have HS1 := Lib.hid hS1
        rw [hS1] at hgap2
        generalize sumZ ⟨b, s, g, 0⟩ ws = S0 at *
        generalize strN b ws' s = gp at hgap hgap2
        have Hgap2 := Lib.hid hgap2
        have e64 : IntKind.i64.wrap (S0 + dd) = S0 + dd := IntWalk.i64_in _ (by omega)
        clear hgap2
        have HO2 := Lib.hid hO2.drop
        clear hA2 HAl hO2 hW' hS1 hS2 hb' hbz hW hWd hW0 HPl HN c1 c2 c3 c4 c6 xz xt
        go_wp2_with fail
        refine (hA _).out.mono ?_
        rintro e w9 ⟨rfl, rfl⟩
        have H11 := HS _ _ HO2.out
        clear c5 HS
        go_wp2_with fail
        refine H11.out.mono ?_
        rintro e w9 ⟨rfl, hO⟩
        have H12 := Lib.hid (Words_any (by omega) hO)
        clear H11 hO HO2
        go_wp2_with fail
        refine H12.out.mono ?_
        rintro e w10 ⟨v10, rfl, hO⟩
        obtain ⟨b9, o9, q9, hv9, hc9⟩ := hO.intsAt.at (by omega)
        have y9 := hc9 b (by omega)
        have HO := Lib.hid hO.drop
        rw [hlen'] at hv9
        subst hv9
        clear hO hc9 H12
        generalize hqq : ws'.getD b 0 = q at *
        have Hqq := Lib.hid hqq
        clear hqq
        have hgp : gp = S0 + dd - q := by have := Hgap2.out; omega
        subst hgp
        have f1 : decide (((b + 4 + s + 3 : Nat) : Int) < (b : Int) + 4 + (s : Int)) = false := by simp; omega
        have f2 : decide (M < S0 + dd - q) = false := by simp; omega
        have f3 : decide (S0 + dd - q < -M) = false := by simp; omega
        have f7 : decide ((b : Int) + 4 + (s : Int) + 3 < (b : Int) + 4 + (s : Int)) = false := by simp; omega
        have f8 : decide ((b : Int) + 4 + (s : Int) ≤ (b : Int) + 4 + (s : Int) + 3) = true := by simp; omega
        by_cases hg1 : g = 1
        · have hq : q = S0 + dd := by have := hMg hg1; omega
          have f4 : (g == 1) = true := by rw [hg1]; rfl
          have f5 : (q == S0 + dd) = true := by rw [hq]; simp
          have f6 : (q != S0 + dd) = false := by rw [hq]; simp
          clear hq hg1 hMg
          go_wp2_with fail
          go_roundw
          case rel => exact ⟨k + 1, ws', lg', by omega, by go_num, by rw [HS1.out], HW'.out, hlen', by rw [Hqq.out]; exact hqb.1, by rw [Hqq.out]; exact hqb.2, hlg', HO.out⟩
          case measure => simp [intOf]; omega
        · have f4 : (g == 1) = false := beq_f hg1
          clear hg1 hMg
          go_wp2_with fail
          go_roundw
          case rel => exact ⟨k + 1, ws', lg', by omega, by go_num, by rw [HS1.out], HW'.out, hlen', by rw [Hqq.out]; exact hqb.1, by rw [Hqq.out]; exact hqb.2, hlg', HO.out⟩
          case measure => simp [intOf]; omega
    · have HB := Lib.hid hO.toBelow
      clear hO hW hlen hq0 hq1 hlg
      go_wp2_with fail
      go_ret
      exact ⟨rfl, HB.out⟩
theorem AddRow_big0 (W : World) (c : Cn) (pr pl : Option Addr) (cr cl : Nat) (hc : c.Wf) (hm1 : c.ver.length ≤ 9223372036854775807) (hm2 : c.val.length ≤ 9223372036854775807) (hr : IntsAt W .u32 (.slice pr c.ver.length cr) c.ver) (hv : IntsAt W .i32 (.slice pl c.val.length cl) c.val) (zs ts : List Int) (qz qt : Option Addr) (cz ct : Nat) (wz : ∀ n ∈ zs, (Lit.int .i32 n).wf = true) (wt : ∀ n ∈ ts, (Lit.int .u16 n).wf = true) (iz : IntsAt W .i32 (.slice qz zs.length cz) zs) (it : IntsAt W .u16 (.slice qt ts.length ct) ts) (hz : zs.length ≤ 9223372036854775807) (ht : ts.length ≤ 9223372036854775807) (h : 40 < zs.length) :
    Calls Try.prog 6 #[cnV c (.slice pr c.ver.length cr) (.slice pl c.val.length cl), .slice qz zs.length cz, .slice qt ts.length ct] W fun e w' => e = .returned (.bool true) ∧ Below W.heap.size W w' := by
  have Hh := Lib.hid (head_any ((Own.start W).new (cnO c (.slice pr c.ver.length cr) (.slice pl c.val.length cl))))
  unfold cnV
  have hd3 : decide (40 < (zs.length : Int)) = true := by simp; omega
  go_enter Try.func6, Try.ntmps6
  go_wp2_with fail
  refine Hh.out.mono ?_
  rintro e w1 ⟨rfl, hO⟩
  obtain ⟨c0, c1, c2, c3, c4, c5, c6⟩ := cnCells hO
  clear Hh
  go_wp2_with fail
  go_ret
  exact ⟨rfl, hO.toBelow⟩
theorem AddRow_bigT (W : World) (c : Cn) (pr pl : Option Addr) (cr cl : Nat) (hc : c.Wf) (hm1 : c.ver.length ≤ 9223372036854775807) (hm2 : c.val.length ≤ 9223372036854775807) (hr : IntsAt W .u32 (.slice pr c.ver.length cr) c.ver) (hv : IntsAt W .i32 (.slice pl c.val.length cl) c.val) (zs ts : List Int) (qz qt : Option Addr) (cz ct : Nat) (wz : ∀ n ∈ zs, (Lit.int .i32 n).wf = true) (wt : ∀ n ∈ ts, (Lit.int .u16 n).wf = true) (iz : IntsAt W .i32 (.slice qz zs.length cz) zs) (it : IntsAt W .u16 (.slice qt ts.length ct) ts) (hz : zs.length ≤ 9223372036854775807) (ht : ts.length ≤ 9223372036854775807) (h0 : zs.length ≤ 40) (h : ts.length < zs.length) :
    Calls Try.prog 6 #[cnV c (.slice pr c.ver.length cr) (.slice pl c.val.length cl), .slice qz zs.length cz, .slice qt ts.length ct] W fun e w' => e = .returned (.bool true) ∧ Below W.heap.size W w' := by
  have Hh := Lib.hid (head_any ((Own.start W).new (cnO c (.slice pr c.ver.length cr) (.slice pl c.val.length cl))))
  unfold cnV
  have hd3 : decide (40 < (zs.length : Int)) = false := by simp; omega
  have hd4 : decide ((ts.length : Int) < (zs.length : Int)) = true := by simp; omega
  have hd5 : decide (ts.length < zs.length) = true := by simp; omega
  go_enter Try.func6, Try.ntmps6
  go_wp2_with fail
  refine Hh.out.mono ?_
  rintro e w1 ⟨rfl, hO⟩
  obtain ⟨c0, c1, c2, c3, c4, c5, c6⟩ := cnCells hO
  clear Hh
  go_wp2_with fail
  go_ret
  exact ⟨rfl, hO.toBelow⟩
theorem AddRow_big1 (W : World) (c : Cn) (pr pl : Option Addr) (cr cl : Nat) (hc : c.Wf) (hm1 : c.ver.length ≤ 9223372036854775807) (hm2 : c.val.length ≤ 9223372036854775807) (hr : IntsAt W .u32 (.slice pr c.ver.length cr) c.ver) (hv : IntsAt W .i32 (.slice pl c.val.length cl) c.val) (zs ts : List Int) (qz qt : Option Addr) (cz ct : Nat) (wz : ∀ n ∈ zs, (Lit.int .i32 n).wf = true) (wt : ∀ n ∈ ts, (Lit.int .u16 n).wf = true) (iz : IntsAt W .i32 (.slice qz zs.length cz) zs) (it : IntsAt W .u16 (.slice qt ts.length ct) ts) (hz : zs.length ≤ 9223372036854775807) (ht : ts.length ≤ 9223372036854775807) (h0 : zs.length ≤ 40) (h1 : zs.length ≤ ts.length) (h : 20 < c.ver.length) :
    Calls Try.prog 6 #[cnV c (.slice pr c.ver.length cr) (.slice pl c.val.length cl), .slice qz zs.length cz, .slice qt ts.length ct] W fun e w' => e = .returned (.bool true) ∧ Below W.heap.size W w' := by
  have Hh := Lib.hid (head_any ((Own.start W).new (cnO c (.slice pr c.ver.length cr) (.slice pl c.val.length cl))))
  unfold cnV
  have hd3 : decide (40 < (zs.length : Int)) = false := by simp; omega
  have hd4 : decide ((ts.length : Int) < (zs.length : Int)) = false := by simp; omega
  have hd5 : decide (ts.length < zs.length) = false := by simp; omega
  have hd1 : decide (20 < (c.ver.length : Int)) = true := by simp; omega
  go_enter Try.func6, Try.ntmps6
  go_wp2_with fail
  refine Hh.out.mono ?_
  rintro e w1 ⟨rfl, hO⟩
  obtain ⟨c0, c1, c2, c3, c4, c5, c6⟩ := cnCells hO
  clear Hh
  go_wp2_with fail
  go_ret
  exact ⟨rfl, hO.toBelow⟩
theorem AddRow_big2 (W : World) (c : Cn) (pr pl : Option Addr) (cr cl : Nat) (hc : c.Wf) (hm1 : c.ver.length ≤ 9223372036854775807) (hm2 : c.val.length ≤ 9223372036854775807) (hr : IntsAt W .u32 (.slice pr c.ver.length cr) c.ver) (hv : IntsAt W .i32 (.slice pl c.val.length cl) c.val) (zs ts : List Int) (qz qt : Option Addr) (cz ct : Nat) (wz : ∀ n ∈ zs, (Lit.int .i32 n).wf = true) (wt : ∀ n ∈ ts, (Lit.int .u16 n).wf = true) (iz : IntsAt W .i32 (.slice qz zs.length cz) zs) (it : IntsAt W .u16 (.slice qt ts.length ct) ts) (hz : zs.length ≤ 9223372036854775807) (ht : ts.length ≤ 9223372036854775807) (h0 : zs.length ≤ 40) (h1 : zs.length ≤ ts.length) (h2 : c.ver.length ≤ 20) (h : 20 < c.val.length) :
    Calls Try.prog 6 #[cnV c (.slice pr c.ver.length cr) (.slice pl c.val.length cl), .slice qz zs.length cz, .slice qt ts.length ct] W fun e w' => e = .returned (.bool true) ∧ Below W.heap.size W w' := by
  have Hh := Lib.hid (head_any ((Own.start W).new (cnO c (.slice pr c.ver.length cr) (.slice pl c.val.length cl))))
  unfold cnV
  have hd3 : decide (40 < (zs.length : Int)) = false := by simp; omega
  have hd4 : decide ((ts.length : Int) < (zs.length : Int)) = false := by simp; omega
  have hd5 : decide (ts.length < zs.length) = false := by simp; omega
  have hd1 : decide (20 < (c.ver.length : Int)) = false := by simp; omega
  have hd2 : decide (20 < (c.val.length : Int)) = true := by simp; omega
  go_enter Try.func6, Try.ntmps6
  go_wp2_with fail
  refine Hh.out.mono ?_
  rintro e w1 ⟨rfl, hO⟩
  obtain ⟨c0, c1, c2, c3, c4, c5, c6⟩ := cnCells hO
  clear Hh
  go_wp2_with fail
  go_ret
  exact ⟨rfl, hO.toBelow⟩
theorem AddRow_calls (W : World) (c : Cn) (vr vl : Value) (hc : c.Wf) (hm1 : c.ver.length ≤ maxLen) (hm2 : c.val.length ≤ maxLen) (hr : IntsAt W .u32 vr c.ver) (hv : IntsAt W .i32 vl c.val)
    (vz : Value) (zs : List Int) (hz : zs.length ≤ maxLen) (wz : ∀ n ∈ zs, (Lit.int .i32 n).wf = true) (iz : IntsAt W .i32 vz zs) (vt : Value) (ts : List Int) (ht : ts.length ≤ maxLen) (wt : ∀ n ∈ ts, (Lit.int .u16 n).wf = true) (it : IntsAt W .u16 vt ts) :
    Calls Try.prog 6 #[cnV c vr vl, vz, vt] W fun e w' => e = .returned (.bool true) ∧ Below W.heap.size W w' := by
  obtain ⟨pr, cr, rfl⟩ := hr.slice
  obtain ⟨pl, cl, rfl⟩ := hv.slice
  obtain ⟨qz, cz, rfl⟩ := iz.slice
  obtain ⟨qt, ct, rfl⟩ := it.slice
  unfold maxLen at hm1 hm2 hz ht
  by_cases h0 : zs.length ≤ 40
  · by_cases h1 : zs.length ≤ ts.length
    · by_cases h2 : c.ver.length ≤ 20
      · by_cases h3 : c.val.length ≤ 20
        · exact AddRow_main W c pr pl cr cl hc h2 h3 hr hv zs ts qz qt cz ct wz wt iz it h0 h1
        · exact AddRow_big2 W c pr pl cr cl hc (by omega) (by omega) hr hv zs ts qz qt cz ct wz wt iz it (by omega) (by omega) h0 h1 h2 (by omega)
      · exact AddRow_big1 W c pr pl cr cl hc (by omega) (by omega) hr hv zs ts qz qt cz ct wz wt iz it (by omega) (by omega) h0 h1 (by omega)
    · exact AddRow_bigT W c pr pl cr cl hc (by omega) (by omega) hr hv zs ts qz qt cz ct wz wt iz it (by omega) (by omega) h0 (by omega)
  · exact AddRow_big0 W c pr pl cr cl hc (by omega) (by omega) hr hv zs ts qz qt cz ct wz wt iz it (by omega) (by omega) (by omega)
end Go.Proofs.Ytkciaegbiglfmaa
