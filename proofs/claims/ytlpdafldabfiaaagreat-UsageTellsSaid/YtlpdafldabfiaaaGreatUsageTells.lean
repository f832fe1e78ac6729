/- UsageTells. Written by tools/gen_use*.py. -/
import Derived.Test.YtlpdafldabfiaaaGreatC6
import Derived.Test.YtlpdafldabfiaaaGreatC8
import Derived.Test.YtlpdafldabfiaaaGreatC10
import Derived.Test.YtlpdafldabfiaaaGreatC19
import Derived.Test.YtlpdafldabfiaaaGreatC22
import Derived.Test.YtlpdafldabfiaaaGreatC28
import Derived.Test.YtlpdafldabfiaaaGreatC34
import Derived.Test.YtlpdafldabfiaaaGreatC44
import Derived.Test.YtlpdafldabfiaaaGreatC46
import Derived.Lib.QuietBelow
import Derived.Deep.RegionWith
import Derived.StillTailTactics
namespace Go.Proofs.YtlpdafldabfiaaaGreat
open Go.ChangeShapes Go.WideShapes Go.ChangeAt Go.RowKit Go.Shelf
set_option linter.unusedVariables false
set_option linter.unusedSimpArgs false
set_option maxRecDepth 100000
theorem playF_ws7 {g b S : Nat} : ∀ (f t : Nat) (s : SS) (ws : List Int) (lg : List Acc), (playF (cntM g b S) [] f t s ws lg).2.2.2.1 = ws
  | 0, _, _, _, _ => rfl
  | f + 1, t, s, ws, lg => by
    rw [playF]
    rw [pokesAt_nil]
    by_cases hq : ((cntM g b S).step s ws lg).2.2.2 = true
    · rw [if_pos hq]; exact stepS_ws b S s ws lg
    · rw [if_neg hq]
      have h := playF_ws7 (g := g) (b := b) (S := S) f (t + 1) (stepS b S s ws lg).1 (stepS b S s ws lg).2.1 (stepS b S s ws lg).2.2.1
      rw [stepS_ws] at h
      show (playF (cntM g b S) [] f (t + 1) (stepS b S s ws lg).1 (stepS b S s ws lg).2.1 (stepS b S s ws lg).2.2.1).2.2.2.1 = ws
      rw [stepS_ws]
      exact h
theorem UsageTells_great (W : World) (c : Cf) {vp vl v : Value} {zs : List Int} (hw : Wide c) (hp : IntsAt W .i64 vp c.ps) (hl : IntsAt W .i64 vl c.ls) (hv : IntsAt W .i64 v zs) (hz : ∀ n ∈ zs, I64 n) (hm : zs.length ≤ maxLen) (h : ¬ (c.ps.length ≤ 100 ∧ c.ls.length ≤ 100)) (a : Int) (a0 : IntKind.u8.min ≤ a) (a1 : a ≤ IntKind.u8.max) (b : Int) (b0 : IntKind.u8.min ≤ b) (b1 : b ≤ IntKind.u8.max) :
    Calls Tryz.prog 3 #[cfV c vp vl, v, .int .u8 a, .int .u8 b] W fun e w' => e = .returned (.bool true) ∧ Below W.heap.size W w' := by
  obtain ⟨pp, cp, rfl⟩ := hp.slice
  obtain ⟨pl, cl, rfl⟩ := hl.slice
  obtain ⟨pv, cv, rfl⟩ := hv.slice
  have h0 := (Own.start W).new (cfO c (.slice pp c.ps.length cp) (.slice pl c.ls.length cl))
  have Hh := Lib.hid (head14_any h0)
  clear h0
  have HG := fun w => Lib.hid (Great_yes (pp := pp) (pl := pl) (np := c.ps.length) (nl := c.ls.length) (cp := cp) (cl := cl) c hw.pn hw.ln (by omega) w)
  clear hw h hp hl hv hz
  go_enter Tryz.func3, Tryz.ntmps3
  go_wp2_with fail
  refine Hh.out.mono ?_
  rintro e w1 ⟨rfl, hO⟩
  obtain ⟨d0, d1, d2, d3, d4, d5, d6, d7⟩ := conf_cells hO
  go_wp2_with fail
  refine (HG _).out.mono ?_
  rintro e w2 ⟨rfl, hB⟩
  have hO := hO.below hB
  clear hB HG Hh d0 d1 d2 d3 d4 d5 d6 d7
  have HB := Lib.hid hO.toBelow
  clear hO
  go_wp2_with fail
  go_ret
  exact ⟨rfl, HB.out⟩
theorem UsageTells_wrong (W : World) (c : Cf) {vp vl v : Value} {zs : List Int} (hw : Wide c) (hp : IntsAt W .i64 vp c.ps) (hl : IntsAt W .i64 vl c.ls) (hv : IntsAt W .i64 v zs) (hz : ∀ n ∈ zs, I64 n) (hm : zs.length ≤ maxLen) (h : c.ps.length ≤ 100 ∧ c.ls.length ≤ 100) (hr : ¬ c.Rt) (a : Int) (a0 : IntKind.u8.min ≤ a) (a1 : a ≤ IntKind.u8.max) (b : Int) (b0 : IntKind.u8.min ≤ b) (b1 : b ≤ IntKind.u8.max) :
    Calls Tryz.prog 3 #[cfV c vp vl, v, .int .u8 a, .int .u8 b] W fun e w' => e = .returned (.bool true) ∧ Below W.heap.size W w' := by
  obtain ⟨pp, cp, rfl⟩ := hp.slice
  obtain ⟨pl, cl, rfl⟩ := hl.slice
  obtain ⟨pv, cv, rfl⟩ := hv.slice
  have h0 := (Own.start W).new (cfO c (.slice pp c.ps.length cp) (.slice pl c.ls.length cl))
  have Hh := Lib.hid (head14_any h0)
  clear h0
  have HG := fun w => Lib.hid (Great_no (pp := pp) (pl := pl) (np := c.ps.length) (nl := c.ls.length) (cp := cp) (cl := cl) c h.1 h.2 w)
  have HR := fun w' (hb : Stp W w') => Lib.hid (rRight_any c (hw.wf h.1 h.2) (hp.stp hb) (hl.stp hb))
  rw [rtB_no hr] at HR
  clear hw h hp hl hv hz hr
  go_enter Tryz.func3, Tryz.ntmps3
  go_wp2_with fail
  refine Hh.out.mono ?_
  rintro e w1 ⟨rfl, hO⟩
  obtain ⟨d0, d1, d2, d3, d4, d5, d6, d7⟩ := conf_cells hO
  go_wp2_with fail
  refine (HG _).out.mono ?_
  rintro e w2 ⟨rfl, hB⟩
  have hO := hO.below hB
  clear hB HG Hh d0 d1 d2 d3 d4 d5 d6 d7
  obtain ⟨d0, d1, d2, d3, d4, d5, d6, d7⟩ := conf_cells hO
  go_wp2_with fail
  refine (HR _ hO.toBelow).out.mono ?_
  rintro e w3 ⟨rfl, hB⟩
  have hO := hO.below hB
  clear hB HR d0 d1 d2 d3 d4 d5 d6 d7
  have HB := Lib.hid hO.toBelow
  clear hO
  go_wp2_with fail
  go_ret
  exact ⟨rfl, HB.out⟩
theorem UsageTells_long (W : World) (c : Cf) {vp vl v : Value} {zs : List Int} (hw : Wide c) (hp : IntsAt W .i64 vp c.ps) (hl : IntsAt W .i64 vl c.ls) (hv : IntsAt W .i64 v zs) (hz : ∀ n ∈ zs, I64 n) (hm : zs.length ≤ maxLen) (h : c.ps.length ≤ 100 ∧ c.ls.length ≤ 100) (hr : c.Rt) (hq : 100 < zs.length) (a : Int) (a0 : IntKind.u8.min ≤ a) (a1 : a ≤ IntKind.u8.max) (b : Int) (b0 : IntKind.u8.min ≤ b) (b1 : b ≤ IntKind.u8.max) :
    Calls Tryz.prog 3 #[cfV c vp vl, v, .int .u8 a, .int .u8 b] W fun e w' => e = .returned (.bool true) ∧ Below W.heap.size W w' := by
  obtain ⟨pp, cp, rfl⟩ := hp.slice
  obtain ⟨pl, cl, rfl⟩ := hl.slice
  obtain ⟨pv, cv, rfl⟩ := hv.slice
  have h0 := (Own.start W).new (cfO c (.slice pp c.ps.length cp) (.slice pl c.ls.length cl))
  have Hh := Lib.hid (head14_any h0)
  clear h0
  have HG := fun w => Lib.hid (Great_no (pp := pp) (pl := pl) (np := c.ps.length) (nl := c.ls.length) (cp := cp) (cl := cl) c h.1 h.2 w)
  have HR := fun w' (hb : Stp W w') => Lib.hid (rRight_any c (hw.wf h.1 h.2) (hp.stp hb) (hl.stp hb))
  rw [rtB_yes hr] at HR
  have g1 : (100 : Int) < (zs.length : Int) := by omega
  clear hw h hp hl hv hz hr
  go_enter Tryz.func3, Tryz.ntmps3
  go_wp2_with fail
  refine Hh.out.mono ?_
  rintro e w1 ⟨rfl, hO⟩
  obtain ⟨d0, d1, d2, d3, d4, d5, d6, d7⟩ := conf_cells hO
  go_wp2_with fail
  refine (HG _).out.mono ?_
  rintro e w2 ⟨rfl, hB⟩
  have hO := hO.below hB
  clear hB HG Hh d0 d1 d2 d3 d4 d5 d6 d7
  obtain ⟨d0, d1, d2, d3, d4, d5, d6, d7⟩ := conf_cells hO
  go_wp2_with fail
  refine (HR _ hO.toBelow).out.mono ?_
  rintro e w3 ⟨rfl, hB⟩
  have hO := hO.below hB
  clear hB HR d0 d1 d2 d3 d4 d5 d6 d7
  have HB := Lib.hid hO.toBelow
  clear hO
  go_wp2_with fail
  go_ret
  exact ⟨rfl, HB.out⟩
set_option maxHeartbeats 20000000 in
theorem UsageTells_main (W : World) (c : Cf) {vp vl v : Value} {zs : List Int} (hw : Wide c) (hp : IntsAt W .i64 vp c.ps) (hl : IntsAt W .i64 vl c.ls) (hv : IntsAt W .i64 v zs) (hz : ∀ n ∈ zs, I64 n) (hm : zs.length ≤ maxLen) (h : c.ps.length ≤ 100 ∧ c.ls.length ≤ 100) (hr : c.Rt) (hq : zs.length ≤ 100) (a : Int) (a0 : IntKind.u8.min ≤ a) (a1 : a ≤ IntKind.u8.max) (b : Int) (b0 : IntKind.u8.min ≤ b) (b1 : b ≤ IntKind.u8.max) :
    Calls Tryz.prog 3 #[cfV c vp vl, v, .int .u8 a, .int .u8 b] W fun e w' => e = .returned (.bool true) ∧ Below W.heap.size W w' := by
  obtain ⟨pp, cp, rfl⟩ := hp.slice
  obtain ⟨pl, cl, rfl⟩ := hl.slice
  obtain ⟨pv, cv, rfl⟩ := hv.slice
  have h0 := (Own.start W).new (cfO c (.slice pp c.ps.length cp) (.slice pl c.ls.length cl))
  have Hh := Lib.hid (head14_any h0)
  clear h0
  have HG := fun w => Lib.hid (Great_no (pp := pp) (pl := pl) (np := c.ps.length) (nl := c.ls.length) (cp := cp) (cl := cl) c h.1 h.2 w)
  have HR := fun w' (hb : Stp W w') => Lib.hid (rRight_any c (hw.wf h.1 h.2) (hp.stp hb) (hl.stp hb))
  rw [rtB_yes hr] at HR
  have hn0 := hr.n0
  have hn1 := hr.n1
  have hti := ti_nat hr
  have HRw := fun w L (h : Own W NoF L w) => Lib.hid (uRaw_any hr hp hl hv hq h)
  have hlen : (rawW c zs (rawR c zs)).length = sizeN c := rawW_len c zs _
  have hwf : ∀ k, I64 ((rawW c zs (rawR c zs)).getD k 0) := rawW_wf hr hz _
  have Hp := Lib.hid (show ∀ w', Stp W w' → IntsAt w' .i64 (.slice pp c.ps.length cp) c.ps from fun w' hb => hp.stp hb)
  have Hl := Lib.hid (show ∀ w', Stp W w' → IntsAt w' .i64 (.slice pl c.ls.length cl) c.ls from fun w' hb => hl.stp hb)
  have g1 : ¬ ((100 : Int) < (zs.length : Int)) := by omega
  generalize rawW c zs (rawR c zs) = ws at *
  have a2 : 0 ≤ a := a0
  have a3 : a ≤ 255 := a1
  have b2 : 0 ≤ b := b0
  have b3 : b ≤ 255 := b1
  clear a0 a1 b0 b1
  obtain ⟨U, hU⟩ : ∃ U : Nat, a % (c.ps.length : Int) = (U : Int) := ⟨(a % (c.ps.length : Int)).toNat, by have := Int.emod_nonneg a (show (c.ps.length : Int) ≠ 0 by omega); omega⟩
  have hU1 : U < c.ps.length := by have := Int.emod_lt_of_pos a (show 0 < (c.ps.length : Int) by omega); omega
  obtain ⟨K, hK⟩ : ∃ K : Nat, b % c.ti = (K : Int) := ⟨(b % c.ti).toNat, by have := Int.emod_nonneg b (show c.ti ≠ 0 by omega); omega⟩
  have hK1 : K < c.ti.toNat := by have := Int.emod_lt_of_pos b (show 0 < c.ti by omega); omega
  have eA : a.tmod (c.ps.length : Int) = (U : Int) := by rw [← hU]; exact Int.tmod_eq_emod_of_nonneg a2
  have eB : b.tmod c.ti = (K : Int) := by rw [← hK]; exact Int.tmod_eq_emod_of_nonneg b2
  have eA2 : IntKind.i64.wrap a = a := IntWalk.i64_in _ (by omega)
  have eB2 : IntKind.i64.wrap b = b := IntWalk.i64_in _ (by omega)
  have htz : ¬ (c.ps.length : Int) = 0 := by omega
  have htz2 : ¬ c.ti = 0 := by omega
  have HV := fun (vr : Value) w' (hv : IntsAt w' .i64 vr ws) => Lib.hid (uLive_any (w := w') (vr := vr) (pp := pp) (cp := cp) (pl := pl) (cl := cl) hr hlen hwf K hK1 hv)
  have HVr := fun (vr : Value) w' (hv : IntsAt w' .i64 vr ws) => Lib.hid (rLive_any (w := w') (vr := vr) (pp := pp) (cp := cp) (pl := pl) (cl := cl) hr hlen hwf K hK1 hv)
  have HU := fun (vr : Value) w' (hv : IntsAt w' .i64 vr ws) (hs : Stp W w') => Lib.hid (uUsed_any (w := w') (vr := vr) (pp := pp) (cp := cp) (pl := pl) (cl := cl) hr hlen hwf U hv (Hp.out _ hs) (Hl.out _ hs))
  have HUr := fun (vr : Value) w' (hv : IntsAt w' .i64 vr ws) (hs : Stp W w') => Lib.hid (rUsed_any (w := w') (vr := vr) (pp := pp) (cp := cp) (pl := pl) (cl := cl) hr hlen hwf U hv (Hp.out _ hs) (Hl.out _ hs))
  have HH := fun (vr : Value) w' (hv : IntsAt w' .i64 vr ws) (hs : Stp W w') => Lib.hid (uHeld_any (w := w') (vr := vr) (pp := pp) (cp := cp) (pl := pl) (cl := cl) hr hlen hwf U hU1 hv (Hp.out _ hs) (Hl.out _ hs))
  have HHr := fun (vr : Value) w' (hv : IntsAt w' .i64 vr ws) (hs : Stp W w') => Lib.hid (rHeld_any (w := w') (vr := vr) (pp := pp) (cp := cp) (pl := pl) (cl := cl) hr hlen hwf U hU1 hv (Hp.out _ hs) (Hl.out _ hs))
  have HCn := fun w L (h : Own W NoF L w) => Lib.hid (uCount_any (pp := pp) (cp := cp) (pl := pl) (cl := cl) hr U hU1 h)
  have HPn := fun w L (h : Own W NoF L w) => Lib.hid (uPeek_any (pp := pp) (cp := cp) (pl := pl) (cl := cl) hr U hU1 h)
  have st := st_nat hr
  have hre := hr.re
  unfold Bd at hre
  have hctb := ctN_bd hr hU1
  have HCr := fun w => Lib.hid (show Calls Tryz.prog 22 #[cfV c (.slice pp c.ps.length cp) (.slice pl c.ls.length cl), .int .i64 U] w fun e w' => e = .returned (.int .i64 (ctN c U)) ∧ Below w.heap.size w w' from by
    have h := rCounter_q (pp := pp) (np := c.ps.length) (cp := cp) (pl := pl) (nl := c.ls.length) (cl := cl) c hr.sm (U : Int) (by omega) (by omega) w
    rw [limN_eq hr.sm, st.1] at h; unfold ctN; push_cast; push_cast at h; exact h)
  have hsl : ctN c U + 4 + c.st.toNat ≤ ws.length := by
    have hlu := limN_lt c hU1
    rw [hlen]; unfold ctN sizeN; omega
  have hwl : ws.length ≤ 10000 := by have := sizeN_bd hr; rw [hlen]; omega
  obtain ⟨S, hS⟩ : ∃ S, S = c.st.toNat := ⟨_, rfl⟩
  obtain ⟨r, hR⟩ : ∃ r, r = c.re.toNat := ⟨_, rfl⟩
  obtain ⟨Ct, hCt⟩ : ∃ Ct, Ct = ctN c U := ⟨_, rfl⟩
  rw [← hS, ← hR, ← hCt] at HCn
  rw [← hCt] at HPn HCr
  have hst : c.st = (S : Int) := by omega
  have hrr : c.re = (r : Int) := by omega
  have HCr2 := HCr
  have HNr := fun w L (h : Own W NoF L w) => Lib.hid (show Calls Tryz.prog 21 #[.int .i64 Ct, .int .i64 c.st, .int .i64 c.re] w (fun e w' => ∃ k, e = .returned (.pointer (some ⟨k, 0, none⟩)) ∧ Own W NoF (rgA k Ct S (s0S r) :: L) w') from by
    rw [hst, hrr]
    refine (r7Count0 Ct S r h).mono ?_
    rintro e w' ⟨k, rfl, hO⟩
    exact ⟨k, rfl, by rw [rg_nil (rfl : (s0S r).got = [])]; exact hO⟩)
  have hWS : WS Ct S ws := ⟨by omega, by omega, by omega, by omega, by omega, hwf⟩
  have HWS := Lib.hid hWS
  have HGS := Lib.hid (GS.start S r (by omega) (by omega))
  have hCtl : Ct < ws.length := by omega
  have HLen := Lib.hid hlen
  generalize livB c ws K = LB at *
  generalize livV c ws K = LV at *
  generalize livN c ws K = LN at *
  generalize usedU c ws U = UU at *
  generalize heldW c ws U = HE at *
  have n0 : 0 < ws.length := by omega
  clear hw h hp hl hv hz hr hlen hwf hti hU hU1 hK hK1 Hp Hl hst hrr hS hR hCt hWS st hre hctb hsl hn1
  go_enter Tryz.func3, Tryz.ntmps3
  go_wp2_with fail
  refine Hh.out.mono ?_
  rintro e w1 ⟨rfl, hO⟩
  obtain ⟨d0, d1, d2, d3, d4, d5, d6, d7⟩ := conf_cells hO
  go_wp2_with fail
  refine (HG _).out.mono ?_
  rintro e w2 ⟨rfl, hB⟩
  have hO := hO.below hB
  clear hB HG Hh d0 d1 d2 d3 d4 d5 d6 d7
  obtain ⟨d0, d1, d2, d3, d4, d5, d6, d7⟩ := conf_cells hO
  go_wp2_with fail
  refine (HR _ hO.toBelow).out.mono ?_
  rintro e w3 ⟨rfl, hB⟩
  have hO := hO.below hB
  clear hB HR d0 d1 d2 d3 d4 d5 d6 d7
  obtain ⟨d0, d1, d2, d3, d4, d5, d6, d7⟩ := conf_cells hO
  go_wp2_with fail
  refine (HRw _ _ hO).out.mono ?_
  rintro e w4 ⟨vw, rfl, hO⟩
  rw [← HLen.out] at hO
  clear HRw d0 d1 d2 d3 d4 d5 d6 d7
  obtain ⟨d0, d1, d2, d3, d4, d5, d6, d7⟩ := conf_cells hO.swap
  go_wp2_with fail
  refine (HV _ _ hO.intsAt).out.mono ?_
  rintro e w5 ⟨rfl, hB⟩
  have hO := hO.below hB
  clear hB d0 d1 d2 d3 d4 d5 d6 d7 HV
  obtain ⟨d0, d1, d2, d3, d4, d5, d6, d7⟩ := conf_cells hO.swap
  go_wp2_with fail
  refine (HVr _ _ hO.intsAt).out.mono ?_
  rintro e w6 ⟨rfl, hB⟩
  have hO := hO.below hB
  clear hB d0 d1 d2 d3 d4 d5 d6 d7 HVr
  obtain ⟨d0, d1, d2, d3, d4, d5, d6, d7⟩ := conf_cells hO.swap
  have hI := hO.intsAt
  have hT := hO.toBelow
  have C1 := fun d os => Calls.regrown_of (HU _ (Go.Sort.grow (redrawn w6 d) os) (hI.below (below_regrown _ d os)) (Stp.trans hT (below_regrown _ d os))).out
  have C2 := fun d os => Calls.regrown_of (HUr _ (Go.Sort.grow (redrawn w6 d) os) (hI.below (below_regrown _ d os)) (Stp.trans hT (below_regrown _ d os))).out
  have C3 := fun d os => Calls.regrown_of (HH _ (Go.Sort.grow (redrawn w6 d) os) (hI.below (below_regrown _ d os)) (Stp.trans hT (below_regrown _ d os))).out
  have C4 := fun d os => Calls.regrown_of (HHr _ (Go.Sort.grow (redrawn w6 d) os) (hI.below (below_regrown _ d os)) (Stp.trans hT (below_regrown _ d os))).out
  have k0 := cell_regrown d0
  have k1 := cell_regrown d1
  have k2 := cell_regrown d2
  have k3 := cell_regrown d3
  have k4 := cell_regrown d4
  have k5 := cell_regrown d5
  have k6 := cell_regrown d6
  have k7 := cell_regrown d7
  have n1 : (LV != LV) = false := by simp
  have n2 : (LN != LN) = false := by simp
  have n3 : (LB != LB) = false := by simp
  have n4 : (UU != UU) = false := by simp
  have n5 : (HE != HE) = false := by simp
  have HO := Lib.hid hO
  clear hO hI hT d0 d1 d2 d3 d4 d5 d6 d7 HU HUr HH HHr
  go_wp2_with fail
  try dsimp only [List.append]
  refine wp_region_quiet_below (by kernel_rfl) (by kernel_rfl) ?_
  repeat (go_big_quiet_step (first | (go_at_call 15; with_reducible exact C1 _ _) | (go_at_call 16; with_reducible exact C2 _ _) | (go_at_call 17; with_reducible exact C3 _ _) | (go_at_call 18; with_reducible exact C4 _ _)))
  refine wpQuiet_nil ?_
  intro _ hw'
  obtain ⟨⟨dq, osq⟩, hw''⟩ := hw'
  subst hw''
  have hO := HO.out.below (below_regrown _ dq osq)
  clear k0 k1 k2 k3 k4 k5 k6 k7 C1 C2 C3 C4 HO n1 n2 n3 n4 n5
  generalize Go.Sort.grow (redrawn w6 dq) osq = w7 at hO ⊢
  obtain ⟨pw, cw, rfl⟩ := row_slice hO
  have HLd := Lib.hid (pLaid_any n0 hwl hO)
  clear hO
  go_wp2_with fail
  refine HLd.out.mono ?_
  rintro e w8 ⟨m, rfl, hO⟩
  clear HLd
  have hB := (hO.swap.rowNil (e := 104) (size := 5)).new (.cells #[.slice pw ws.length cw, .slice none 0 0] 36)
  have hM : Own W NoF (memV 36 w8.heap.size (.slice pw ws.length cw) ws [] :: [memA 107 m ws [], blk W.heap.size (cfO c (.slice pp c.ps.length cp) (.slice pl c.ls.length cl))]) _ := Own.toMemV (ws := ws) (l := []) (hB.under fun _ _ h => h.swap) rfl rfl rfl rfl
  have HC1 := Lib.hid (HCn _ _ hM)
  obtain ⟨d0, d1, d2, d3, d4, d5, d6, d7⟩ := conf_cells hM.drop.drop
  clear hO hB hM HCn
  go_wp2_with fail
  generalize w8.heap.size = n at *
  refine HC1.out.out.mono ?_
  rintro e w9 ⟨g1, rfl, hO⟩
  clear HC1 d0 d1 d2 d3 d4 d5 d6 d7
  obtain ⟨d0, d1, d2, d3, d4, d5, d6, d7⟩ := conf_cells hO.p3
  have hO := hO.drew
  go_wp2_with fail
  go_region_held3 (fun w' => w'.cell? ⟨W.heap.size, 0, none⟩ = some (.int .i64 c.th) ∧ w'.cell? ⟨W.heap.size, 1, none⟩ = some (.int .i64 c.st) ∧ w'.cell? ⟨W.heap.size, 2, none⟩ = some (.int .i64 c.ga) ∧ w'.cell? ⟨W.heap.size, 3, none⟩ = some (.int .i64 c.le) ∧ w'.cell? ⟨W.heap.size, 4, none⟩ = some (.int .i64 c.re) ∧ w'.cell? ⟨W.heap.size, 5, none⟩ = some (.int .i64 c.ti) ∧ w'.cell? ⟨W.heap.size, 6, none⟩ = some (.slice pp c.ps.length cp) ∧ w'.cell? ⟨W.heap.size, 7, none⟩ = some (.slice pl c.ls.length cl)) (go_keep) (first
    | (go_at_call 22; refine (HCr _).out.mono ?_; rintro e w' ⟨rfl, hB'⟩; have hO := Own.below (by with_reducible assumption) hB'; have hB : Stp _ w' := hB'; have d0 := Stp.cell hB d0; have d1 := Stp.cell hB d1; have d2 := Stp.cell hB d2; have d3 := Stp.cell hB d3; have d4 := Stp.cell hB d4; have d5 := Stp.cell hB d5; have d6 := Stp.cell hB d6; have d7 := Stp.cell hB d7)
    | (go_at_call 21; refine (HNr _ _ (by with_reducible assumption)).out.mono ?_; rintro e w' ⟨g2, rfl, hO2⟩; obtain ⟨d0, d1, d2, d3, d4, d5, d6, d7⟩ := conf_cells hO2.p4))
  all_goals
    have hO : Own W NoF [cntA g1 Ct S (s0S r), memA 107 m ws [], rgA g2 Ct S (s0S r), memV 36 n (.slice pw ws.length cw) ws [], blk W.heap.size (cfO c (.slice pp c.ps.length cp) (.slice pl c.ls.length cl))] _ := hO2.swap.under fun _ _ h => h.p2
    have hpv := pksAt_nil
    have H4 := fun w h => Cnt_play (w0 := W) (F0 := NoF) (L := [rgA g2 Ct S (s0S r), memV 36 n (.slice pw ws.length cw) ws [], blk W.heap.size (cfO c (.slice pp c.ps.length cp) (.slice pl c.ls.length cl))]) (w := w) g1 m Ct S (.slice none 0 0) (s0S r) ws [] [] 500 (by simp) (pksAt_nil _) (by decide) HGS.out HWS.out (by simp) (fun t ws h => by rw [pokesAt_nil]; exact h) h
    rw [show (500 : Int).toNat = 500 from rfl] at H4
    have hinv := cplay_inv (l := []) g1 (fun t ws (h : WS Ct S ws) => by rw [pokesAt_nil]; exact h) 500 0 (s0S r) ws [] HWS.out HGS.out
    have hws := playF_ws7 (g := g1) (b := Ct) (S := S) 500 0 (s0S r) ws []
    have HPl := fun L w h => Lib.hid (rcV_play (W := W) (L := L) (w := w) (vx := .slice pw ws.length cw) g1 g2 n Ct S 500 (.slice none 0 0) (s0S r) ws [] rfl (by simp) (by decide) (by simp) rfl HWS.out HGS.out (pksAt_nil _) h)
    rcases hpf : playF (cntM g1 Ct S) [] 500 0 (s0S r) ws [] with ⟨N1, B1, s1, ws1, lg1⟩
    rw [hpf] at H4 hinv HPl hws
    unfold RetPlayV at HPl
    simp only at hinv HPl hws
    replace hws := hws.symm
    subst hws
    obtain ⟨-, -, -, hG1⟩ := hinv
    have HG1 := Lib.hid (show lg1.length ≤ 500 by simp at hG1; omega)
    have H4' := Lib.hid (H4 _ hO)
    clear hpf H4 hG1 hpv hO hO2 d0 d1 d2 d3 d4 d5 d6 d7 HNr HCr
    go_wp2_with fail
    refine H4'.out.mono ?_
    rintro e w11 ⟨rfl, hO⟩
    simp only [cntM] at hO
    have H5 := HPl _ _ hO.p3.p3
    clear H4' HPl hO
    go_wp2_with fail
    refine H5.out.mono ?_
    rintro e w12 ⟨rfl, hO⟩
    obtain ⟨vl2, hM⟩ := hO.swap.memV_open
    obtain ⟨pg, cg, rfl⟩ := row_slice hM.p2
    have e1 : w12.cell? ⟨n, 1, none⟩ = some (.slice pg lg1.length cg) := hM.cell (i := 1) rfl
    have HO := Lib.hid hM
    have H6 := Lib.hid (cntAns_any HO.out.p4.drew)
    have eq := ans_differ
    clear hM H5 hO
    go_wp2_with fail
    try dsimp only [List.append]
    go_region_held3 (fun w' => w'.cell? ⟨n, 1, none⟩ = some (.slice pg lg1.length cg)) (go_keep)
      (first
        | (go_at_call 25; refine H6.out.mono ?_; rintro e w13 ⟨rfl, hB⟩; have HO10 := Lib.hid (HO.out.drew.below hB); have H7 := Lib.hid (rgAns_any HO10.out.p3); have z1 := Stp.cell hB e1; clear hB; unfold ansV)
        | (go_at_call 26; refine H7.out.mono ?_; rintro e w14 ⟨rfl, hB⟩; have HO11 := Lib.hid (HO10.out.below hB); have H8 := Lib.hid (Log_b (by have := HG1.out; omega) HO11.out.p5); have z2 := Stp.cell hB z1; clear hB; unfold ansV)
        | (go_at_call 28; refine H8.out.mono ?_; rintro e w15 ⟨v15, rfl, hA⟩; have HO12 := Lib.hid (HO11.out.below hA.toBelow); have H9 := Lib.hid (SameLog_yes hA.logAt HO12.out.p2.logAt (by have := HG1.out; omega)); have z3 := Stp.cell hA.toBelow z2; clear hA)
        | (go_at_call 27; refine H9.out.mono ?_; rintro e w16 ⟨rfl, hD⟩; have HO13 := Lib.hid (HO12.out.below hD.below); have z4 := hD.cell z3; clear hD))
    have hO := HO13.out.drop.under fun _ _ h => h.drop.drop.drop
    have hO : Own W NoF [row (.slice pw ws.length cw) 3 1 ws.length (intC ws), memA 107 m ws lg1, blk W.heap.size (cfO c (.slice pp c.ps.length cp) (.slice pl c.ls.length cl))] _ := hO
    clear HO13 HO12 HO11 HO10 HO H6 H7 H8 H9 e1 z1 z2 z3 z4 eq
    have HP1 := Lib.hid (HPn _ _ hO)
    obtain ⟨d0, d1, d2, d3, d4, d5, d6, d7⟩ := conf_cells hO.p2
    clear hO HPn
    go_wp2_with fail
    refine HP1.out.out.mono ?_
    rintro e w17 ⟨g3, rfl, hO⟩
    clear HP1 d0 d1 d2 d3 d4 d5 d6 d7
    have HQ := Lib.hid (pk_play0 g3 m Ct 5 (by decide) (by decide) hCtl (by have := HG1.out; omega) (hO.under fun _ _ h => h.swap))
    clear hO
    go_wp2_with fail
    refine HQ.out.mono ?_
    rintro e w18 ⟨rfl, lg2, hO⟩
    clear HQ
    obtain ⟨v1, v2, hO⟩ := Own.fin hO
    obtain ⟨bw, ow, cw', ew, hcw⟩ := (hO.p2.intsAt).at n0
    injection ew with ew1 ew2 ew3
    subst ew1 ew3
    have x0 := hcw Ct hCtl
    obtain ⟨d0, d1, d2, d3, d4, d5, d6, d7⟩ := conf_cells hO.p3
    have C1 := fun d os => Calls.regrown_of (snAns_any (hO.below (below_regrown w18 d os)))
    have C2 := fun d os => Calls.regrown_of (HCr2 (Go.Sort.grow (redrawn w18 d) os)).out
    unfold ansV at C1
    have g2 : (Ct : Int) < (ws.length : Int) := by omega
    have q1 := ans_same (ws.getD Ct 0) false
    have HB := Lib.hid hO.toBelow
    generalize ws.getD Ct 0 = y at *
    have k0 := cell_regrown d0
    have k1 := cell_regrown d1
    have k2 := cell_regrown d2
    have k3 := cell_regrown d3
    have k4 := cell_regrown d4
    have k5 := cell_regrown d5
    have k6 := cell_regrown d6
    have k7 := cell_regrown d7
    have k8 := cell_regrown x0
    clear hO hcw x0 d0 d1 d2 d3 d4 d5 d6 d7 ew2
    go_wp2_with fail
    try dsimp only [List.append]
    refine wp_region_quiet_below (by kernel_rfl) (by kernel_rfl) ?_
    repeat (go_big_quiet_step (first | (go_at_call 25; with_reducible exact C1 _ _) | (go_at_call 22; with_reducible exact C2 _ _)))
    refine wpQuiet_nil ?_
    intro _ hw'
    obtain ⟨⟨dq, osq⟩, hw''⟩ := hw'
    subst hw''
    have HB2 := Lib.hid (Stp.trans HB.out (below_regrown w18 dq osq))
    clear k0 k1 k2 k3 k4 k5 k6 k7 k8 C1 C2 HB
    go_wp2_with fail
    go_ret
    exact ⟨rfl, HB2.out⟩
theorem UsageTells_calls (W : World) (c : Cf) (vp vl : Value) (hwd : Wide c) (hp : IntsAt W .i64 vp c.ps) (hl : IntsAt W .i64 vl c.ls) (v : Value) (zs : List Int) (hm : zs.length ≤ maxLen) (hzw : ∀ n ∈ zs, (Lit.int .i64 n).wf = true) (hv : IntsAt W .i64 v zs) (a : Int) (a0 : IntKind.u8.min ≤ a) (a1 : a ≤ IntKind.u8.max) (b : Int) (b0 : IntKind.u8.min ≤ b) (b1 : b ≤ IntKind.u8.max) :
    Calls Tryz.prog 3 #[cfV c vp vl, v, .int .u8 a, .int .u8 b] W fun e w' => e = .returned (.bool true) ∧ Below W.heap.size W w' := by
  have hz : ∀ n ∈ zs, I64 n := fun n hn => law_wf (hzw n hn)
  by_cases h : c.ps.length ≤ 100 ∧ c.ls.length ≤ 100
  · by_cases hr : c.Rt
    · by_cases hq : zs.length ≤ 100
      · exact UsageTells_main W c hwd hp hl hv hz hm h hr hq a a0 a1 b b0 b1
      · exact UsageTells_long W c hwd hp hl hv hz hm h hr (by omega) a a0 a1 b b0 b1
    · exact UsageTells_wrong W c hwd hp hl hv hz hm h hr a a0 a1 b b0 b1
  · exact UsageTells_great W c hwd hp hl hv hz hm h a a0 a1 b b0 b1
end Go.Proofs.YtlpdafldabfiaaaGreat
