/- PoolBounds. Written by tools/gen_pool*.py. -/
import Derived.Test.YtpapcblgojfooaaPoolHead
import Derived.StillTailTactics
namespace Go.Proofs.Ytpapcblgojfooaa
open Go.ChangeShapes Go.WideShapes Go.ChangeAt Go.RowKit Go.Shelf
set_option linter.unusedVariables false
set_option linter.unusedSimpArgs false
set_option maxRecDepth 100000
variable {ws : List Int}
theorem beq_fB {a b : Int} (h : ¬ a = b) : (a == b) = false := by rw [beq_eq_false_iff_ne]; exact h
/-- What the words are behind a step, whether it is the last or not. -/
theorem PB_step {x : Po} {t : Nat} {s : PS} {ws : List Int} {lg : List Acc} (hr : x.c.Rt) (h : PIn x t s ws lg) : PL x 5000000000 (stepP x.p s ws lg).2.1 ∧ (stepP x.p s ws lg).2.2.1.length = t + 1 ∧ ((stepP x.p s ws lg).2.2.2 = false → PIn x (t + 1) (stepP x.p s ws lg).1 (stepP x.p s ws lg).2.1 (stepP x.p s ws lg).2.2.1) := by
  obtain ⟨h1, h2⟩ := h.step hr
  cases hb : (stepP x.p s ws lg).2.2.2 with
  | true => exact ⟨(h2 hb).w, (h2 hb).len, fun h => by cases h⟩
  | false => exact ⟨(h1 hb).w.more (by decide), (h1 hb).len, fun _ => h1 hb⟩
theorem PoolBounds_bad (W : World) (x : Po) {vp vl ve vk : Value} (H : PoAt W x vp vl ve vk) (hg : ¬ GoodP x) :
    Calls Try.prog 6 #[poV x vp vl ve vk] W fun e w' => e = .returned (.bool true) ∧ Below W.heap.size W w' := by
  obtain ⟨pp, cp, rfl⟩ := H.p.slice
  obtain ⟨pl, cl, rfl⟩ := H.l.slice
  obtain ⟨pk, ck, rfl⟩ := PksAt.slice H.k
  have h0 := (Own.start W).new (poO x (.slice pp x.c.ps.length cp) (.slice pl x.c.ls.length cl) ve (.slice pk x.l.length ck))
  have Hh := Lib.hid (head8_any h0)
  have HG := fun w' (hb : Stp W w') => Lib.hid (pGood_no (H.stp hb) hg)
  unfold poV at HG ⊢
  clear h0 H hg
  go_enter Try.func6, Try.ntmps6
  go_wp2_with fail
  refine Hh.out.mono ?_
  rintro e w1 ⟨rfl, hO⟩
  obtain ⟨d0, d1, d2, d3, d4, d5, d6, d7, d8, d9, d10, d11, d12, d13⟩ := poCells hO
  go_wp2_with fail
  refine (HG _ hO.toBelow).out.mono ?_
  rintro e w2 ⟨rfl, hB⟩
  have hO := hO.below hB
  clear hB HG Hh d0 d1 d2 d3 d4 d5 d6 d7 d8 d9 d10 d11 d12 d13
  have HB := Lib.hid hO.toBelow
  clear hO
  go_wp2_with fail
  go_ret
  exact ⟨rfl, HB.out⟩
set_option maxHeartbeats 20000000 in
theorem PoolBounds_main (W : World) (x : Po) {vp vl ve vk : Value} (H : PoAt W x vp vl ve vk) (hg : GoodP x) :
    Calls Try.prog 6 #[poV x vp vl ve vk] W fun e w' => e = .returned (.bool true) ∧ Below W.heap.size W w' := by
  obtain ⟨pp, cp, rfl⟩ := H.p.slice
  obtain ⟨pl, cl, rfl⟩ := H.l.slice
  obtain ⟨pk, ck, rfl⟩ := PksAt.slice H.k
  have h0 := (Own.start W).new (poO x (.slice pp x.c.ps.length cp) (.slice pl x.c.ls.length cl) ve (.slice pk x.l.length ck))
  have Hh := Lib.hid (head8_any h0)
  have hr := hg.rt
  have HG := fun w' (hb : Stp W w') => Lib.hid (pGood_yes (H.stp hb) hg)
  have HOf := fun w' (hb : Stp W w') => Lib.hid (pOf_any (H.stp hb) hr)
  have HWd := fun w L (h : Own W NoF L w) => Lib.hid (pWords_any H hg h)
  have HPk := fun w L (h : Own W NoF L w) => Lib.hid (pPokes_any H hg h)
  have hOk := poW_ok hr H.wf
  have hin := Po.b_in hr
  have hvb := Po.v_bd hr
  have hsb := Po.s_bd hr
  have hkb := Po.k_bd (x := x)
  have HSe := Lib.hid (Po.S_eq hr)
  have hn1 := hr.n1
  have hbe := Po.b_eq hr
  have hst := hr.sm
  have hst8 := hr.sm.2
  have Hr := Lib.hid hr
  have hp0 : (x.p.av : Int) = lim x.c x.v + 1 := by rw [hbe]; simp only [Po.p]; omega
  have hp1 : (x.p.le : Int) = lim x.c x.v + 2 + x.s := by rw [hbe]; simp only [Po.p]; omega
  have HNw := fun w L (h : Own W NoF L w) => Lib.hid (poolNew_any (w0 := W) (F0 := NoF) (L := L) (w := w) (pp := pp) (np := x.c.ps.length) (cp := cp) (pl := pl) (nl := x.c.ls.length) (cl := cl) x.c hst x.v x.k x.s hvb.1 (by omega) hsb.1 (by omega) x.p hp0 hp1 rfl rfl h)
  clear hbe hp0 hp1
  have hl40 := hg.l
  have hti : 0 ≤ x.c.ti ∧ x.c.ti ≤ 16 := by have := hr.ti; unfold Bd at this; omega
  have hsz := sizeN_eq hr
  unfold poV at HG HOf HWd HPk ⊢
  clear h0 H hg hr
  go_enter Try.func6, Try.ntmps6
  go_wp2_with fail
  refine Hh.out.mono ?_
  rintro e w1 ⟨rfl, hO⟩
  obtain ⟨d0, d1, d2, d3, d4, d5, d6, d7, d8, d9, d10, d11, d12, d13⟩ := poCells hO
  go_wp2_with fail
  refine (HG _ hO.toBelow).out.mono ?_
  rintro e w2 ⟨rfl, hB⟩
  have hO := hO.below hB
  clear hB HG Hh d0 d1 d2 d3 d4 d5 d6 d7 d8 d9 d10 d11 d12 d13
  obtain ⟨d0, d1, d2, d3, d4, d5, d6, d7, d8, d9, d10, d11, d12, d13⟩ := poCells hO
  go_wp2_with fail
  refine (HOf _ hO.toBelow).out.mono ?_
  rintro e w3 ⟨rfl, hB⟩
  have hO := hO.below hB
  clear hB HOf d0 d1 d2 d3 d4 d5 d6 d7 d8 d9 d10 d11 d12 d13
  obtain ⟨d0, d1, d2, d3, d4, d5, d6, d7, d8, d9, d10, d11, d12, d13⟩ := poCells hO
  go_wp2_with fail
  refine (HWd _ _ hO).out.mono ?_
  rintro e w4 ⟨vw, rfl, hO⟩
  clear HWd d0 d1 d2 d3 d4 d5 d6 d7 d8 d9 d10 d11 d12 d13
  obtain ⟨ws, hws⟩ : ∃ ws, ws = poW x (poR x) := ⟨_, rfl⟩
  rw [← hws] at hO hOk
  have hlen := hOk.len
  rw [← hlen] at hO
  clear hws
  have HLd := Lib.hid (pLaid_any (by omega) (by omega) hO)
  clear hO
  go_wp2_with fail
  refine HLd.out.mono ?_
  rintro e w5 ⟨m, rfl, hO⟩
  clear HLd
  obtain ⟨d0, d1, d2, d3, d4, d5, d6, d7, d8, d9, d10, d11, d12, d13⟩ := poCells hO.p2
  have HN := HNw _ _ hO
  clear hO
  go_wp2_with fail
  refine HN.out.mono ?_
  rintro e w6 ⟨g, rfl, hO⟩
  clear HN d0 d1 d2 d3 d4 d5 d6 d7 d8 d9 d10 d11 d12 d13
  obtain ⟨d0, d1, d2, d3, d4, d5, d6, d7, d8, d9, d10, d11, d12, d13⟩ := poCells hO.p3
  have HP := HPk _ _ hO
  clear hO
  go_wp2_with fail
  refine HP.out.mono ?_
  rintro e w7 ⟨vp, rfl, hO⟩
  obtain ⟨pr3, cr3, rfl⟩ := row_slice hO
  have hRl : (poP x).length ≤ 40 := by rw [poP_len]; omega
  have HPK := Lib.hid (fun (t : Nat) ws (h : PL x 4294967295 ws) => h.pokes Hr.out (t : Int))
  have HI0 := Lib.hid (PIn.start hOk)
  have hin := Po.b_in Hr.out
  have hbb := Po.b_eq Hr.out
  have hSS : x.S = x.c.st.toNat := rfl
  have hS8 := (Po.S_eq Hr.out).2
  obtain ⟨jl, hjl⟩ : ∃ j : Nat, j = x.b + 2 + x.s.toNat := ⟨_, rfl⟩
  obtain ⟨ja, hja⟩ : ∃ j : Nat, j = x.b + 1 := ⟨_, rfl⟩
  obtain ⟨N, hN⟩ : ∃ N : Nat, N = sizeN x.c := ⟨_, rfl⟩
  have HPst := Lib.hid (fun (n : Nat) s1 wk lg (h : PIn x n s1 wk lg) => PB_step Hr.out h)
  have HPL := Lib.hid (show ∀ wz, PL x 5000000000 wz → wz.length = N ∧ 0 ≤ wz.getD ja 0 ∧ 0 ≤ wz.getD jl 0 ∧ wz.getD jl 0 ≤ x.c.le from fun wz h => ⟨by rw [h.len, hN], by rw [hja]; exact h.a0, by rw [hjl]; exact (h.l x.s.toNat (by omega)).1, by rw [hjl]; exact (h.l x.s.toNat (by omega)).2⟩)
  have HLe0 := fun w => rLease_q (pp := pp) (np := x.c.ps.length) (cp := cp) (pl := pl) (nl := x.c.ls.length) (cl := cl) x.c hst x.v hvb.1 (by omega) x.s hsb.1 (by omega) w
  have HAv0 := fun w => rAvail_q (pp := pp) (np := x.c.ps.length) (cp := cp) (pl := pl) (nl := x.c.ls.length) (cl := cl) x.c hst x.v hvb.1 (by omega) w
  have HSz0 := fun w => Size_q (pp := pp) (np := x.c.ps.length) (cp := cp) (pl := pl) (nl := x.c.ls.length) (cl := cl) x.c hst (by omega) hti.1 hti.2 w
  rw [show lim x.c x.v + 2 + x.s = (jl : Int) by rw [hjl, hbb]; omega] at HLe0
  rw [show lim x.c x.v + 1 = (ja : Int) by rw [hja, hbb]; omega] at HAv0
  rw [show lim x.c x.c.ps.length + 2 * x.c.ti = (N : Int) by rw [hN]; exact hsz.1] at HSz0
  have HLe := fun w => Lib.hid (HLe0 w)
  have HAv := fun w => Lib.hid (HAv0 w)
  have HSz := fun w => Lib.hid (HSz0 w)
  have hjN : jl < N ∧ ja < N ∧ N ≤ 400 := by rw [hjl, hja, hN]; omega
  have hO : Own W NoF (poolA g x.v x.p s0P :: memA 94 m ws [] :: row (.slice pr3 (poP x).length cr3) 66 3 (poP x).length (pkC (poP x)) :: [blk W.heap.size (poO x (.slice pp x.c.ps.length cp) (.slice pl x.c.ls.length cl) ve (.slice pk x.l.length ck))]) w7 := hO.swap.under fun _ _ h => h.swap.under fun _ _ h => h.swap.drop
  clear HP d0 d1 d2 d3 d4 d5 d6 d7 d8 d9 d10 d11 d12 d13 HPk HNw hin hbb hSS hS8 hjl hja hN HLe0 HAv0 HSz0 hsz
  generalize poP x = R at *
  have HO := Lib.hid hO
  clear hO
  go_wp2_with fail
  go_loopw [10, 11, 12, 13] (fun v10 v11 v12 v13 wr => ∃ (n : Nat) (s1 : PS) (ws : List Int) (lg : List Acc), n ≤ 100 ∧ v10 = .int .i64 n ∧ PIn x n s1 ws lg ∧ Own W NoF (poolA g x.v x.p s1 :: memA 94 m ws lg :: row (.slice pr3 R.length cr3) 66 3 R.length (pkC R) :: [blk W.heap.size (poO x (.slice pp x.c.ps.length cp) (.slice pl x.c.ls.length cl) ve (.slice pk x.l.length ck))]) wr) (fun v10 v11 v12 v13 _ => 100 - (intOf v10).toNat)
  case atStart => exact ⟨0, _, ws, [], by decide, rfl, HI0.out, HO.out⟩
  case round =>
    obtain ⟨n, s1, ws, lg, hn, rfl, hI, hO⟩ := hrel
    have HO2 := Lib.hid hO
    have HI := Lib.hid hI
    clear HO HI0 hO hI hlen hOk
    by_cases hlt : n < 100
    · have f60 : decide ((n : Int) < 100) = true := by simp; omega
      have Hlt := Lib.hid hlt
      clear hlt
      go_wp2_with fail
      go_loopw [11] (fun v11 wr => ∃ k : Nat, k ≤ R.length ∧ v11 = .int .i64 k ∧ Own W NoF (memA 94 m (pokesAt n (R.take k) ws) lg :: poolA g x.v x.p s1 :: row (.slice pr3 R.length cr3) 66 3 R.length (pkC R) :: [blk W.heap.size (poO x (.slice pp x.c.ps.length cp) (.slice pl x.c.ls.length cl) ve (.slice pk x.l.length ck))]) wr) (fun v11 _ => R.length - (intOf v11).toNat)
      case atStart => exact ⟨0, Nat.zero_le _, rfl, HO2.out.swap⟩
      case round =>
        obtain ⟨k, hk, rfl, hO⟩ := hrel
        clear HO2
        by_cases hkl : k < R.length
        · obtain ⟨b3, o3, e3, hb3, hc3⟩ := hO.p2.pksAt.at (by rw [pkC_len]; omega) (by omega)
          have Hnx := Lib.hid (pokes_take (t := (n : Int)) hkl ws)
          obtain ⟨y, hy⟩ : ∃ y, y = R.getD k default := ⟨_, rfl⟩
          have e := fun j hj => pkC_get R k j hkl hj
          rw [← hy] at e Hnx
          have x0 : wr.cell? ⟨b3, o3 + k * 3, none⟩ = some (.int .i64 y.at_) := hc3 (k * 3 + 0) _ (e 0 (by omega))
          have x1 : wr.cell? ⟨b3, o3 + k * 3 + 1, none⟩ = some (.int .i64 y.w) := hc3 (k * 3 + 1) _ (e 1 (by omega))
          have x2 : wr.cell? ⟨b3, o3 + k * 3 + 2, none⟩ = some (.int .i64 y.x) := hc3 (k * 3 + 2) _ (e 2 (by omega))
          clear hc3 e hy
          subst e3
          have HO := Lib.hid hO
          clear hO
          generalize pokesAt n (R.take k) ws = wk at HO Hnx
          by_cases hat : y.at_ = n
          · have hF : (y.at_ == (n : Int)) = true := by rw [beq_iff_eq]; exact hat
            have hnx := Hnx.out
            rw [if_pos hat] at hnx
            have Hnx2 := Lib.hid hnx
            have HPw := Lib.hid (fun w h => PokeW_any (w0 := W) (F0 := NoF) (L := poolA g x.v x.p s1 :: row (.slice (some ⟨b3, o3, none⟩) R.length cr3) 66 3 R.length (pkC R) :: [blk W.heap.size (poO x (.slice pp x.c.ps.length cp) (.slice pl x.c.ls.length cl) ve (.slice pk x.l.length ck))]) (T := 94) (m := m) (ws := wk) (l := lg) (w := w) y h)
            clear hat hnx Hnx
            go_wp2_with fail
            refine wp_region_still_tail 11 (by kernel_rfl) (by kernel_rfl) ?_
            simp only [List.take_succ_cons, List.take_zero, List.drop_succ_cons, List.drop_zero]
            change wpStill _ _ wr.drew _ _ _
            iterate 11 still_step
            refine wpStill_nil ?_
            change wpList _ _ _ _ _ wr.drew
            go_wp2_with fail
            refine (HPw.out _ HO.out.drew).mono ?_
            rintro e w9 ⟨rfl, hO⟩
            rw [← Hnx2.out] at hO
            have HO3 := Lib.hid hO
            clear hO x0 x1 x2 HPw HO
            go_wp2_with fail
            go_roundw
            case rel => exact ⟨k + 1, by omega, by go_num, HO3.out⟩
            case measure => simp [intOf]; omega
          · have hF : (y.at_ == (n : Int)) = false := beq_fB hat
            have hnx := Hnx.out
            rw [if_neg hat] at hnx
            have Hnx2 := Lib.hid hnx
            clear hat hnx Hnx
            go_wp2_with fail
            go_roundw
            case rel => exact ⟨k + 1, by omega, by go_num, by rw [Hnx2.out]; exact HO.out⟩
            case measure => simp [intOf]; omega
        · obtain rfl : k = R.length := by omega
          rw [List.take_length] at hO
          have hI2 : PIn x n s1 (pokesAt n R ws) lg := ⟨HPK.out n _ HI.out.w, HI.out.ok, HI.out.nine, HI.out.len⟩
          generalize pokesAt n R ws = wk at hO hI2
          have hST := pool_steps g m x.v _ x.p 4294967295 (by decide) _ s1 wk lg wr ⟨Po.p_ok Hr.out, hI2.w.pw Hr.out, hI2.ok, by rw [hI2.len]; have := Hlt.out; omega⟩ hO.swap
          obtain ⟨q1, q2, q3⟩ := HPst.out n s1 wk lg hI2
          simp only [poolM] at hST
          generalize (stepP x.p s1 wk lg).1 = s2 at *
          generalize (stepP x.p s1 wk lg).2.1 = wz at *
          generalize (stepP x.p s1 wk lg).2.2.1 = lz at *
          generalize (stepP x.p s1 wk lg).2.2.2 = fl at *
          obtain ⟨hL3, hx0, hl0, hl1⟩ := HPL.out wz q1
          have HST := Lib.hid hST
          have Hl3 := Lib.hid q2
          have HQ3 := Lib.hid q3
          clear hST q1 q2 q3 hI2 HI hO hkl hk
          go_wp2_with fail
          refine HST.out.mono ?_
          rintro e w9 ⟨rfl, hO⟩
          have H5 := Lib.hid (Words_any (by omega) hO.swap)
          rw [hL3] at H5
          clear hO HST
          go_wp2_with fail
          refine H5.out.mono ?_
          rintro e w10 ⟨v10, rfl, hO⟩
          obtain ⟨p10, c10, rfl⟩ := row_slice hO
          obtain ⟨b10, o10, q10, hv10, hc10⟩ := (show Own W NoF (row (.slice p10 N c10) 3 1 wz.length (intC wz) :: _) w10 by rw [hL3]; exact hO).intsAt.at (by omega)
          injection hv10 with hv10 hlq hv10q
          clear hlq
          subst hv10 hv10q
          have ya := hc10 ja (by omega)
          have yl := hc10 jl (by omega)
          have hO : Own W NoF (memA 94 m wz lz :: poolA g x.v x.p s2 :: row (.slice pr3 R.length cr3) 66 3 R.length (pkC R) :: [blk W.heap.size (poO x (.slice pp x.c.ps.length cp) (.slice pl x.c.ls.length cl) ve (.slice pk x.l.length ck))]) w10 := hO.drop
          obtain ⟨d0, d1, d2, d3, d4, d5, d6, d7, d8, d9, d10, d11, d12, d13⟩ := poCells hO.p3
          generalize wz.getD ja 0 = xa at ya hx0
          generalize wz.getD jl 0 = xl at yl hl0 hl1
          have HL9 := Lib.hid hL3
          have i1 : (jl : Int) < (N : Int) := by omega
          have i2 : (ja : Int) < (N : Int) := by omega
          have j1 : decide ((jl : Int) < 0) = false := by simp
          have j2 : decide ((N : Int) ≤ jl) = false := by simp; omega
          have j3 : decide ((ja : Int) < 0) = false := by simp
          have j4 : decide ((N : Int) ≤ ja) = false := by simp; omega
          have f1 : decide (xa < 0) = false := by simp; omega
          have f2 : decide (xl < 0) = false := by simp; omega
          have f3 : decide (x.c.le < xl) = false := by simp; omega
          have k4 : (((n + 1 : Nat) : Int) != (n : Int) + 1) = false := by simp
          have k5 : ((N : Int) != (N : Int)) = false := by simp
          have e4 : IntKind.i64.wrap ((n : Int) + 1) = (n : Int) + 1 := IntWalk.i64_in _ (by have := Hlt.out; omega)
          have HO := Lib.hid hO.drew
          clear hO hc10 H5 hL3 d8 d9 d10 d11 d12 d13
          go_wp2_with fail
          try dsimp only [List.append]
          go_region_held3 (fun w' => w'.cell? ⟨W.heap.size, 0, none⟩ = some (.int .i64 x.c.th) ∧ w'.cell? ⟨W.heap.size, 1, none⟩ = some (.int .i64 x.c.st) ∧ w'.cell? ⟨W.heap.size, 2, none⟩ = some (.int .i64 x.c.ga) ∧ w'.cell? ⟨W.heap.size, 3, none⟩ = some (.int .i64 x.c.le) ∧ w'.cell? ⟨W.heap.size, 4, none⟩ = some (.int .i64 x.c.re) ∧ w'.cell? ⟨W.heap.size, 5, none⟩ = some (.int .i64 x.c.ti) ∧ w'.cell? ⟨W.heap.size, 6, none⟩ = some (.slice pp x.c.ps.length cp) ∧ w'.cell? ⟨W.heap.size, 7, none⟩ = some (.slice pl x.c.ls.length cl) ∧ w'.cell? ⟨b10, o10 + ja, none⟩ = some (.int .i64 xa) ∧ w'.cell? ⟨b10, o10 + jl, none⟩ = some (.int .i64 xl)) (go_keep)
            (first
              | (go_at_call 34; refine (HSz _).out.mono ?_; rintro e w11 ⟨rfl, hB⟩; have HO := Lib.hid (HO.out.below hB); have d0 := Stp.cell hB d0; have d1 := Stp.cell hB d1; have d2 := Stp.cell hB d2; have d3 := Stp.cell hB d3; have d4 := Stp.cell hB d4; have d5 := Stp.cell hB d5; have d6 := Stp.cell hB d6; have d7 := Stp.cell hB d7; have ya := Stp.cell hB ya; have yl := Stp.cell hB yl; clear hB)
              | (go_at_call 22; refine (Log_b (by rw [Hl3.out]; have := Hlt.out; omega) HO.out).mono ?_; rintro e w12 ⟨v12, rfl, hA⟩; obtain ⟨p12, c12, rfl⟩ := row_slice hA; rw [Hl3.out]; have hB := hA.toBelow; clear hA; have HO := Lib.hid (HO.out.below hB); have d0 := Stp.cell hB d0; have d1 := Stp.cell hB d1; have d2 := Stp.cell hB d2; have d3 := Stp.cell hB d3; have d4 := Stp.cell hB d4; have d5 := Stp.cell hB d5; have d6 := Stp.cell hB d6; have d7 := Stp.cell hB d7; have ya := Stp.cell hB ya; have yl := Stp.cell hB yl; clear hB)
              | (go_at_call 31; refine (HAv _).out.mono ?_; rintro e w13 ⟨rfl, hB⟩; have HO := Lib.hid (HO.out.below hB); have d0 := Stp.cell hB d0; have d1 := Stp.cell hB d1; have d2 := Stp.cell hB d2; have d3 := Stp.cell hB d3; have d4 := Stp.cell hB d4; have d5 := Stp.cell hB d5; have d6 := Stp.cell hB d6; have d7 := Stp.cell hB d7; have ya := Stp.cell hB ya; have yl := Stp.cell hB yl; clear hB)
              | (go_at_call 30; refine (HLe _).out.mono ?_; rintro e w14 ⟨rfl, hB⟩; have HO := Lib.hid (HO.out.below hB); have d0 := Stp.cell hB d0; have d1 := Stp.cell hB d1; have d2 := Stp.cell hB d2; have d3 := Stp.cell hB d3; have d4 := Stp.cell hB d4; have d5 := Stp.cell hB d5; have d6 := Stp.cell hB d6; have d7 := Stp.cell hB d7; have ya := Stp.cell hB ya; have yl := Stp.cell hB yl; clear hB))
          all_goals
            cases fl with
            | true =>
              go_wp2_with fail
              go_ret
              exact ⟨rfl, HO.out.toBelow⟩
            | false =>
              have HQ4 := Lib.hid (HQ3.out rfl)
              clear HQ3 HLe HAv HSz
              go_wp2_with fail
              go_roundw
              case rel => exact ⟨n + 1, s2, wz, lz, by have := Hlt.out; omega, by go_num, HQ4.out, HO.out.swap⟩
              case measure => simp [intOf]; have := Hlt.out; omega
    · go_wp2_with fail
      go_ret
      exact ⟨rfl, HO2.out.toBelow⟩
theorem PoolBounds_calls (W : World) (x : Po) (vp vl ve vk : Value) (hwd : Wide x.c) (hwf : x.Wf) (hp : IntsAt W .i64 vp x.c.ps) (hl : IntsAt W .i64 vl x.c.ls) (he : IntsAt W .u32 ve x.ls) (hk : PksAt W vk x.l) :
    Calls Try.prog 6 #[poV x vp vl ve vk] W fun e w' => e = .returned (.bool true) ∧ Below W.heap.size W w' := by
  by_cases hg : GoodP x
  · exact PoolBounds_main W x ⟨hwd, hwf, hp, hl, he, hk⟩ hg
  · exact PoolBounds_bad W x ⟨hwd, hwf, hp, hl, he, hk⟩ hg
end Go.Proofs.Ytpapcblgojfooaa
