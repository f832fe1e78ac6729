/- PoolExact. Written by tools/gen_pool*.py. -/
import Derived.Test.YtpapcblgojfooaaPoolHead
namespace Go.Proofs.Ytpapcblgojfooaa
open Go.ChangeShapes Go.WideShapes Go.ChangeAt Go.RowKit Go.Shelf
set_option linter.unusedVariables false
set_option linter.unusedSimpArgs false
set_option maxRecDepth 100000
variable {ws : List Int}
theorem ans8E (e n : Int) (x : Bool) (q : Int) (w : World) : (Instr.field 51 (.agg #[.int .i64 e, .int .i64 n, .bool x, .int .i64 q]) 0).run Try.prog w = .ok (.int .i64 e) w := by kernel_rfl
theorem PE_play {x : Po} {g : Nat} {nd : Int} (hr : x.c.Rt) (h : PL x 4294967295 ws) (hl : x.l.length ≤ 40) : ∃ n s' ws' lg', playF (poolM g nd x.p 4294967295) (poP x) 300 0 s0P ws [] = (n, true, s', ws', lg') ∧ PE x.p 4294967295 (poP x) n s' ws' lg' := by
  exact pool_any (M := poolM g nd x.p 4294967295) rfl (Po.p_ok hr) (by decide) (fun t ws h => pw_pokes hr t h) 300 0 s0P ws [] (PJ.start (h.pw hr) _) (by rw [poP_len]; omega)
theorem PoolExact_bad (W : World) (x : Po) {vp vl ve vk : Value} (H : PoAt W x vp vl ve vk) (hg : ¬ GoodP x) :
    Calls Try.prog 4 #[poV x vp vl ve vk] W fun e w' => e = .returned (.bool true) ∧ Below W.heap.size W w' := by
  obtain ⟨pp, cp, rfl⟩ := H.p.slice
  obtain ⟨pl, cl, rfl⟩ := H.l.slice
  obtain ⟨pk, ck, rfl⟩ := PksAt.slice H.k
  have h0 := (Own.start W).new (poO x (.slice pp x.c.ps.length cp) (.slice pl x.c.ls.length cl) ve (.slice pk x.l.length ck))
  have Hh := Lib.hid (head8_any h0)
  have HG := fun w' (hb : Stp W w') => Lib.hid (pGood_no (H.stp hb) hg)
  unfold poV at HG ⊢
  clear h0 H hg
  go_enter Try.func4, Try.ntmps4
  go_wp2_with fail
  refine Hh.out.mono ?_
  rintro e w1 ⟨rfl, hO⟩
  obtain ⟨d0, d1, d2, d3, d4, d5, d6, d7, d8, d9, d10, d11, d12, d13⟩ := poCells hO
  go_wp2_with fail
  refine (HG _ hO.toBelow).out.mono ?_
  rintro e w2 ⟨rfl, hB⟩
  have hO := hO.below hB
  clear hB HG Hh d0 d1 d2 d3 d4 d5 d6 d7 d8 d9 d10 d11 d12 d13
  have HB := Lib.hid hO.toBelow
  clear hO
  go_wp2_with fail
  go_ret
  exact ⟨rfl, HB.out⟩
set_option maxHeartbeats 20000000 in
theorem PoolExact_main (W : World) (x : Po) {vp vl ve vk : Value} (H : PoAt W x vp vl ve vk) (hg : GoodP x) :
    Calls Try.prog 4 #[poV x vp vl ve vk] W fun e w' => e = .returned (.bool true) ∧ Below W.heap.size W w' := by
  obtain ⟨pp, cp, rfl⟩ := H.p.slice
  obtain ⟨pl, cl, rfl⟩ := H.l.slice
  obtain ⟨pk, ck, rfl⟩ := PksAt.slice H.k
  have h0 := (Own.start W).new (poO x (.slice pp x.c.ps.length cp) (.slice pl x.c.ls.length cl) ve (.slice pk x.l.length ck))
  have Hh := Lib.hid (head8_any h0)
  have hr := hg.rt
  have HG := fun w' (hb : Stp W w') => Lib.hid (pGood_yes (H.stp hb) hg)
  have HOf := fun w' (hb : Stp W w') => Lib.hid (pOf_any (H.stp hb) hr)
  have HWd := fun w L (h : Own W NoF L w) => Lib.hid (pWords_any H hg h)
  have HPk := fun w L (h : Own W NoF L w) => Lib.hid (pPokes_any H hg h)
  have hOk := poW_ok hr H.wf
  have hin := Po.b_in hr
  have hvb := Po.v_bd hr
  have hsb := Po.s_bd hr
  have hkb := Po.k_bd (x := x)
  have HSe := Lib.hid (Po.S_eq hr)
  have hn1 := hr.n1
  have hbe := Po.b_eq hr
  have hst := hr.sm
  have hst8 := hr.sm.2
  have Hr := Lib.hid hr
  have hp0 : (x.p.av : Int) = lim x.c x.v + 1 := by rw [hbe]; simp only [Po.p]; omega
  have hp1 : (x.p.le : Int) = lim x.c x.v + 2 + x.s := by rw [hbe]; simp only [Po.p]; omega
  have HNw := fun w L (h : Own W NoF L w) => Lib.hid (poolNew_any (w0 := W) (F0 := NoF) (L := L) (w := w) (pp := pp) (np := x.c.ps.length) (cp := cp) (pl := pl) (nl := x.c.ls.length) (cl := cl) x.c hst x.v x.k x.s hvb.1 (by omega) hsb.1 (by omega) x.p hp0 hp1 rfl rfl h)
  clear hbe hp0 hp1
  have hl40 := hg.l
  unfold poV at HG HOf HWd HPk ⊢
  clear h0 H hg hr
  go_enter Try.func4, Try.ntmps4
  go_wp2_with fail
  refine Hh.out.mono ?_
  rintro e w1 ⟨rfl, hO⟩
  obtain ⟨d0, d1, d2, d3, d4, d5, d6, d7, d8, d9, d10, d11, d12, d13⟩ := poCells hO
  go_wp2_with fail
  refine (HG _ hO.toBelow).out.mono ?_
  rintro e w2 ⟨rfl, hB⟩
  have hO := hO.below hB
  clear hB HG Hh d0 d1 d2 d3 d4 d5 d6 d7 d8 d9 d10 d11 d12 d13
  obtain ⟨d0, d1, d2, d3, d4, d5, d6, d7, d8, d9, d10, d11, d12, d13⟩ := poCells hO
  go_wp2_with fail
  refine (HOf _ hO.toBelow).out.mono ?_
  rintro e w3 ⟨rfl, hB⟩
  have hO := hO.below hB
  clear hB HOf d0 d1 d2 d3 d4 d5 d6 d7 d8 d9 d10 d11 d12 d13
  obtain ⟨d0, d1, d2, d3, d4, d5, d6, d7, d8, d9, d10, d11, d12, d13⟩ := poCells hO
  go_wp2_with fail
  refine (HWd _ _ hO).out.mono ?_
  rintro e w4 ⟨vw, rfl, hO⟩
  clear HWd d0 d1 d2 d3 d4 d5 d6 d7 d8 d9 d10 d11 d12 d13
  obtain ⟨ws, hws⟩ : ∃ ws, ws = poW x (poR x) := ⟨_, rfl⟩
  rw [← hws] at hO hOk
  have hlen := hOk.len
  rw [← hlen] at hO
  clear hws
  have HLd := Lib.hid (pLaid_any (by omega) (by omega) hO)
  clear hO
  go_wp2_with fail
  refine HLd.out.mono ?_
  rintro e w5 ⟨m, rfl, hO⟩
  clear HLd
  obtain ⟨d0, d1, d2, d3, d4, d5, d6, d7, d8, d9, d10, d11, d12, d13⟩ := poCells hO.p2
  have HN := HNw _ _ hO
  clear hO
  go_wp2_with fail
  refine HN.out.mono ?_
  rintro e w6 ⟨g, rfl, hO⟩
  clear HN d0 d1 d2 d3 d4 d5 d6 d7 d8 d9 d10 d11 d12 d13
  obtain ⟨d0, d1, d2, d3, d4, d5, d6, d7, d8, d9, d10, d11, d12, d13⟩ := poCells hO.p3
  have HP := HPk _ _ hO
  clear hO
  go_wp2_with fail
  refine HP.out.mono ?_
  rintro e w7 ⟨vp, rfl, hO⟩
  clear HP d0 d1 d2 d3 d4 d5 d6 d7 d8 d9 d10 d11 d12 d13
  have hv : PksAt w7 vp (poP x) := Own.pksAt hO
  have hPl := Lib.hid (Pool_play g m x.v x.p 4294967295 (by decide) vp s0P ws [] (poP x) 300 (by rw [poP_len]; omega) hv (by decide) (Po.p_ok Hr.out) (hOk.pw Hr.out) (s0P_ok _ _) (by decide) (fun t ws h => pw_pokes Hr.out t h) hO.drop)
  obtain ⟨n, s', ws', lg', eP, hE⟩ := PE_play (g := g) (nd := x.v) Hr.out hOk hl40
  rw [show (300 : Int).toNat = 300 from rfl, eP] at hPl
  have hlgn := hE.len
  subst hlgn
  have HE := Lib.hid hE
  clear hO hv eP hE HPk HNw
  go_wp2_with fail
  refine hPl.out.mono ?_
  rintro e w8 ⟨rfl, hO⟩
  have hO : Own W NoF (poolA g x.v x.p s' :: memA 94 m ws' lg' :: row vw 3 1 ws.length (intC ws) :: [blk W.heap.size (poO x (.slice pp x.c.ps.length cp) (.slice pl x.c.ls.length cl) ve (.slice pk x.l.length ck))]) w8 := hO
  have hn := HE.out.most
  rw [poP_len] at hn
  have HLg := Lib.hid (Log_any (by omega) hO.swap)
  clear hO hPl
  go_wp2_with fail
  refine HLg.out.mono ?_
  rintro e w9 ⟨vg, rfl, hO⟩
  clear HLg
  obtain ⟨pg, cg, rfl⟩ := row_slice hO
  have HO := Lib.hid hO
  have HAv := fun w => Lib.hid (Avail_q (pp := pp) (np := x.c.ps.length) (cp := cp) (pl := pl) (nl := x.c.ls.length) (cl := cl) x.c hst x.v hvb.1 (by omega) w)
  have HLe := fun w => Lib.hid (Lease_q (pp := pp) (np := x.c.ps.length) (cp := cp) (pl := pl) (nl := x.c.ls.length) (cl := cl) x.c hst x.v hvb.1 (by omega) x.s hsb.1 (by omega) w)
  have HAll := Lib.hid HE.out.all
  have hpv : x.p.av = x.b + 1 := rfl
  have hpl : x.p.le = x.b + 2 + x.s.toNat := rfl
  have hbb := Po.b_eq Hr.out
  clear hO
  go_wp2_with fail
  go_loopw [12] (fun v12 wr => ∃ k : Nat, k ≤ lg'.length ∧ v12 = .int .i64 k ∧ Own W NoF (row (.slice pg lg'.length cg) 61 5 lg'.length (logC lg') :: memA 94 m ws' lg' :: poolA g x.v x.p s' :: row vw 3 1 ws.length (intC ws) :: [blk W.heap.size (poO x (.slice pp x.c.ps.length cp) (.slice pl x.c.ls.length cl) ve (.slice pk x.l.length ck))]) wr) (fun v12 _ => lg'.length - (intOf v12).toNat)
  case atStart => exact ⟨0, Nat.zero_le _, rfl, HO.out⟩
  case round =>
    obtain ⟨k, hk, rfl, hO⟩ := hrel
    clear HO
    by_cases hlt : k < lg'.length
    · obtain ⟨b, off, cap, hv, hc⟩ := hO.logAt.at (by omega)
      injection hv with hv hvq hv2
      clear hvq
      subst hv hv2
      obtain ⟨ac, hac⟩ : ∃ ac, ac = lg'.getD k ⟨0, 0, 0, 0, false⟩ := ⟨_, rfl⟩
      have hmem : ac ∈ lg' := by rw [hac]; simp [List.getD, hlt]
      obtain ⟨hw, hkd⟩ := HAll.out ac hmem
      obtain ⟨z0, z1, z2, z3, z4⟩ := ac
      simp only at hw hkd
      have b0 : wr.cell? ⟨b, off + k * 5, none⟩ = some (.int .i64 z0) := by have := hc k 0 hlt (by omega); rw [← hac] at this; exact this
      have b1 : wr.cell? ⟨b, off + k * 5 + 1, none⟩ = some (.int .i64 z1) := by have := hc k 1 hlt (by omega); rw [← hac] at this; exact this
      have j0 := cell_regrown b0
      have j1 := cell_regrown b1
      obtain ⟨d0, d1, d2, d3, d4, d5, d6, d7, d8, d9, d10, d11, d12, d13⟩ := poCells hO.p4
      have k0 := cell_regrown d0
      have k1 := cell_regrown d1
      have k2 := cell_regrown d2
      have k3 := cell_regrown d3
      have k4 := cell_regrown d4
      have k5 := cell_regrown d5
      have k6 := cell_regrown d6
      have k7 := cell_regrown d7
      have C1 := fun d os => Calls.regrown_of (HAv (Go.Sort.grow (redrawn wr d) os)).out
      have C2 := fun d os => Calls.regrown_of (HLe (Go.Sort.grow (redrawn wr d) os)).out
      have hk4 : (z0 == (4 : Int)) = false := by rw [beq_eq_false_iff_ne]; omega
      have hk4d : decide (z0 = 4) = false := by simp; omega
      have hk4n : ¬ z0 = 4 := by omega
      have hki : (k : Int) < (lg'.length : Int) := by omega
      have HO := Lib.hid hO
      clear hO hc hac hmem hkd HAll HAv HLe
      generalize hqa : lim x.c x.v + 1 = qa at *
      generalize hql : lim x.c x.v + 2 + x.s = ql at *
      by_cases hwa : z1 = qa
      · subst hwa
        have ga : (z1 != z1) = false := by simp
        clear hw
        clear hbb
        go_wp2_with fail
        try dsimp only [List.append]
        refine wp_region_quiet_below (by kernel_rfl) (by kernel_rfl) ?_
        repeat (go_big_quiet_step ((first | (go_at_call 27; exact C1 _ _) | (go_at_call 28; exact C2 _ _))))
        refine wpQuiet_nil ?_
        intro _ hw'
        obtain ⟨⟨dq, osq⟩, hw''⟩ := hw'
        subst hw''
        clear k0 k1 k2 k3 k4 k5 k6 k7 j0 j1
        have hO2 := HO.out.below (below_regrown wr dq osq)
        generalize Go.Sort.grow (redrawn wr dq) osq = w10 at hO2 ⊢
        have HO2 := Lib.hid hO2
        clear hO2 HO C1 C2
        go_wp2_with fail
        go_roundw
        case rel => exact ⟨k + 1, by omega, by go_num, HO2.out⟩
        case measure => simp [intOf]; omega
      · have hwl : z1 = ql := by
          rcases hw with h | h
          · exact absurd (by rw [h, hpv, ← hqa, hbb]; omega) hwa
          · rw [h, hpl, ← hql, hbb]; omega
        subst hwl
        have ga : (z1 != qa) = true := by simp [hwa]
        have gb : (z1 != z1) = false := by simp
        clear hw
        have gc : decide (z1 = qa) = false := by simp [hwa]
        have gd : (z1 == qa) = false := by rw [beq_eq_false_iff_ne]; exact hwa
        clear hbb
        go_wp2_with fail
        try dsimp only [List.append]
        refine wp_region_quiet_below (by kernel_rfl) (by kernel_rfl) ?_
        repeat (go_big_quiet_step ((first | (go_at_call 27; exact C1 _ _) | (go_at_call 28; exact C2 _ _))))
        refine wpQuiet_nil ?_
        intro _ hw'
        obtain ⟨⟨dq, osq⟩, hw''⟩ := hw'
        subst hw''
        clear k0 k1 k2 k3 k4 k5 k6 k7 j0 j1
        have hO2 := HO.out.below (below_regrown wr dq osq)
        generalize Go.Sort.grow (redrawn wr dq) osq = w10 at hO2 ⊢
        have HO2 := Lib.hid hO2
        clear hO2 HO C1 C2
        go_wp2_with fail
        go_roundw
        case rel => exact ⟨k + 1, by omega, by go_num, HO2.out⟩
        case measure => simp [intOf]; omega
    · obtain rfl : k = lg'.length := by omega
      clear HAll HAv HLe
      have hA := fun w' (hb : Stp wr w') => Lib.hid (poolAns_any (hO.p2.below (w' := w') hb))
      have hOw := fun w' (hb : Stp wr w') => Lib.hid (pOwn_any (w := w') (lg := lg') (by omega) ((hO.below hb).logAt))
      rw [HE.out.own] at hOw
      have fE := ans8E
      have HB := Lib.hid hO.toBelow
      have h9 := HE.out.nine
      have hB0 : Stp wr wr := Stp.refl wr
      clear hO
      unfold ansV at hA
      cases hrr : s'.r with
      | true =>
        have e1 : erP s' = 4 ∧ anP x.v s' = x.v := by unfold erP anP; rw [hrr]; exact ⟨rfl, rfl⟩
        have e2 : wrap64 (-bal x.p s') = 0 := by
          have hb0 : bal x.p s' = 0 := by unfold bal; rw [h9, hrr]; simp
          rw [hb0]; unfold wrap64; omega
        rw [e2] at hOw
        simp only [e1.1, e1.2] at hA
        have qq := ans_refl 4 0 false x.v
        clear e1 e2 h9 hrr
        go_wp2_with (first | (go_at_call 19; (with_reducible refine Calls.mono (Hid.out (hA _ hB0)) ?_); rintro e w' ⟨rfl, hB⟩; have hB0 := Stp.trans hB0 hB; clear hB) | (go_at_call 29; (with_reducible refine Calls.mono (Hid.out (hOw _ hB0)) ?_); rintro e w' ⟨rfl, hB⟩; have hB0 := Stp.trans hB0 hB.below; clear hB))
        have HB0 := Lib.hid hB0
        go_ret
        exact ⟨rfl, Stp.trans (show Stp W wr from HB.out) HB0.out⟩
      | false =>
        have e1 : erP s' = 0 ∧ anP x.v s' = 0 := by unfold erP anP; rw [hrr]; exact ⟨rfl, rfl⟩
        have e2 : wrap64 (-bal x.p s') = -x.k := by
          have : bal x.p s' = x.k := by unfold bal; rw [h9, hrr]; rfl
          rw [this]; unfold wrap64; omega
        rw [e2] at hOw
        simp only [e1.1, e1.2] at hA
        have qq := ans_refl 0 0 false 0
        have hwr : IntKind.i64.wrap (-x.k) = -x.k := IntWalk.i64_in _ (by omega)
        clear e1 e2 h9 hrr
        go_wp2_with (first | (go_at_call 19; (with_reducible refine Calls.mono (Hid.out (hA _ hB0)) ?_); rintro e w' ⟨rfl, hB⟩; have hB0 := Stp.trans hB0 hB; clear hB) | (go_at_call 29; (with_reducible refine Calls.mono (Hid.out (hOw _ hB0)) ?_); rintro e w' ⟨rfl, hB⟩; have hB0 := Stp.trans hB0 hB.below; clear hB))
        have HB0 := Lib.hid hB0
        go_ret
        exact ⟨rfl, Stp.trans (show Stp W wr from HB.out) HB0.out⟩
theorem PoolExact_calls (W : World) (x : Po) (vp vl ve vk : Value) (hwd : Wide x.c) (hwf : x.Wf) (hp : IntsAt W .i64 vp x.c.ps) (hl : IntsAt W .i64 vl x.c.ls) (he : IntsAt W .u32 ve x.ls) (hk : PksAt W vk x.l) :
    Calls Try.prog 4 #[poV x vp vl ve vk] W fun e w' => e = .returned (.bool true) ∧ Below W.heap.size W w' := by
  by_cases hg : GoodP x
  · exact PoolExact_main W x ⟨hwd, hwf, hp, hl, he, hk⟩ hg
  · exact PoolExact_bad W x ⟨hwd, hwf, hp, hl, he, hk⟩ hg
end Go.Proofs.Ytpapcblgojfooaa
