/- UsageLive. Written by tools/gen_use*.py. -/
import Derived.Test.YtlpdafldabfiaaaGreatC8
import Derived.Test.YtlpdafldabfiaaaGreatC10
import Derived.Test.YtlpdafldabfiaaaGreatC19
import Derived.Test.YtlpdafldabfiaaaGreatC22
import Derived.Test.YtlpdafldabfiaaaGreatC28
import Derived.Test.YtlpdafldabfiaaaGreatC44
import Derived.Lib.QuietBelow
import Derived.Deep.RegionWith
import Derived.StillTailTactics
namespace Go.Proofs.YtlpdafldabfiaaaGreat
open Go.ChangeShapes Go.WideShapes Go.ChangeAt Go.RowKit Go.Shelf
set_option linter.unusedVariables false
set_option linter.unusedSimpArgs false
set_option maxRecDepth 100000
def liveWd (vn s : Int) : Int := wrap64 (wrap64 (vn * 4294967296) + s)
theorem liveWd_st (vn s : Int) (h0 : 0 ≤ s) (h1 : s ≤ 3) : stS (liveWd vn s) = s := by
  have e : pval (liveWd vn s) = s := by unfold liveWd pval wrap64 wrap32; omega
  unfold stS
  rw [e, if_pos ⟨h0, h1⟩]
theorem liveWd_I (vn s : Int) : I64 (liveWd vn s) := wrap64_I _
theorem UsageLive_great (W : World) (c : Cf) {vp vl v : Value} {zs : List Int} (hw : Wide c) (hp : IntsAt W .i64 vp c.ps) (hl : IntsAt W .i64 vl c.ls) (hv : IntsAt W .i64 v zs) (hz : ∀ n ∈ zs, I64 n) (hm : zs.length ≤ maxLen) (h : ¬ (c.ps.length ≤ 100 ∧ c.ls.length ≤ 100)) (a : Int) (a0 : IntKind.u8.min ≤ a) (a1 : a ≤ IntKind.u8.max) (vn : Int) (vn0 : IntKind.u32.min ≤ vn) (vn1 : vn ≤ IntKind.u32.max) (st : Int) (st0 : IntKind.u8.min ≤ st) (st1 : st ≤ IntKind.u8.max) :
    Calls Tryz.prog 7 #[cfV c vp vl, v, .int .u8 a, .int .u32 vn, .int .u8 st] W fun e w' => e = .returned (.bool true) ∧ Below W.heap.size W w' := by
  obtain ⟨pp, cp, rfl⟩ := hp.slice
  obtain ⟨pl, cl, rfl⟩ := hl.slice
  obtain ⟨pv, cv, rfl⟩ := hv.slice
  have h0 := (Own.start W).new (cfO c (.slice pp c.ps.length cp) (.slice pl c.ls.length cl))
  have Hh := Lib.hid (head14_any h0)
  clear h0
  have HG := fun w => Lib.hid (Great_yes (pp := pp) (pl := pl) (np := c.ps.length) (nl := c.ls.length) (cp := cp) (cl := cl) c hw.pn hw.ln (by omega) w)
  clear hw h hp hl hv hz
  go_enter Tryz.func7, Tryz.ntmps7
  go_wp2_with fail
  refine Hh.out.mono ?_
  rintro e w1 ⟨rfl, hO⟩
  obtain ⟨d0, d1, d2, d3, d4, d5, d6, d7⟩ := conf_cells hO
  go_wp2_with fail
  refine (HG _).out.mono ?_
  rintro e w2 ⟨rfl, hB⟩
  have hO := hO.below hB
  clear hB HG Hh d0 d1 d2 d3 d4 d5 d6 d7
  have HB := Lib.hid hO.toBelow
  clear hO
  go_wp2_with fail
  go_ret
  exact ⟨rfl, HB.out⟩
theorem UsageLive_wrong (W : World) (c : Cf) {vp vl v : Value} {zs : List Int} (hw : Wide c) (hp : IntsAt W .i64 vp c.ps) (hl : IntsAt W .i64 vl c.ls) (hv : IntsAt W .i64 v zs) (hz : ∀ n ∈ zs, I64 n) (hm : zs.length ≤ maxLen) (h : c.ps.length ≤ 100 ∧ c.ls.length ≤ 100) (hr : ¬ c.Rt) (a : Int) (a0 : IntKind.u8.min ≤ a) (a1 : a ≤ IntKind.u8.max) (vn : Int) (vn0 : IntKind.u32.min ≤ vn) (vn1 : vn ≤ IntKind.u32.max) (st : Int) (st0 : IntKind.u8.min ≤ st) (st1 : st ≤ IntKind.u8.max) :
    Calls Tryz.prog 7 #[cfV c vp vl, v, .int .u8 a, .int .u32 vn, .int .u8 st] W fun e w' => e = .returned (.bool true) ∧ Below W.heap.size W w' := by
  obtain ⟨pp, cp, rfl⟩ := hp.slice
  obtain ⟨pl, cl, rfl⟩ := hl.slice
  obtain ⟨pv, cv, rfl⟩ := hv.slice
  have h0 := (Own.start W).new (cfO c (.slice pp c.ps.length cp) (.slice pl c.ls.length cl))
  have Hh := Lib.hid (head14_any h0)
  clear h0
  have HG := fun w => Lib.hid (Great_no (pp := pp) (pl := pl) (np := c.ps.length) (nl := c.ls.length) (cp := cp) (cl := cl) c h.1 h.2 w)
  have HR := fun w' (hb : Stp W w') => Lib.hid (rRight_any c (hw.wf h.1 h.2) (hp.stp hb) (hl.stp hb))
  rw [rtB_no hr] at HR
  clear hw h hp hl hv hz hr
  go_enter Tryz.func7, Tryz.ntmps7
  go_wp2_with fail
  refine Hh.out.mono ?_
  rintro e w1 ⟨rfl, hO⟩
  obtain ⟨d0, d1, d2, d3, d4, d5, d6, d7⟩ := conf_cells hO
  go_wp2_with fail
  refine (HG _).out.mono ?_
  rintro e w2 ⟨rfl, hB⟩
  have hO := hO.below hB
  clear hB HG Hh d0 d1 d2 d3 d4 d5 d6 d7
  obtain ⟨d0, d1, d2, d3, d4, d5, d6, d7⟩ := conf_cells hO
  go_wp2_with fail
  refine (HR _ hO.toBelow).out.mono ?_
  rintro e w3 ⟨rfl, hB⟩
  have hO := hO.below hB
  clear hB HR d0 d1 d2 d3 d4 d5 d6 d7
  have HB := Lib.hid hO.toBelow
  clear hO
  go_wp2_with fail
  go_ret
  exact ⟨rfl, HB.out⟩
theorem UsageLive_long (W : World) (c : Cf) {vp vl v : Value} {zs : List Int} (hw : Wide c) (hp : IntsAt W .i64 vp c.ps) (hl : IntsAt W .i64 vl c.ls) (hv : IntsAt W .i64 v zs) (hz : ∀ n ∈ zs, I64 n) (hm : zs.length ≤ maxLen) (h : c.ps.length ≤ 100 ∧ c.ls.length ≤ 100) (hr : c.Rt) (hq : 100 < zs.length) (a : Int) (a0 : IntKind.u8.min ≤ a) (a1 : a ≤ IntKind.u8.max) (vn : Int) (vn0 : IntKind.u32.min ≤ vn) (vn1 : vn ≤ IntKind.u32.max) (st : Int) (st0 : IntKind.u8.min ≤ st) (st1 : st ≤ IntKind.u8.max) :
    Calls Tryz.prog 7 #[cfV c vp vl, v, .int .u8 a, .int .u32 vn, .int .u8 st] W fun e w' => e = .returned (.bool true) ∧ Below W.heap.size W w' := by
  obtain ⟨pp, cp, rfl⟩ := hp.slice
  obtain ⟨pl, cl, rfl⟩ := hl.slice
  obtain ⟨pv, cv, rfl⟩ := hv.slice
  have h0 := (Own.start W).new (cfO c (.slice pp c.ps.length cp) (.slice pl c.ls.length cl))
  have Hh := Lib.hid (head14_any h0)
  clear h0
  have HG := fun w => Lib.hid (Great_no (pp := pp) (pl := pl) (np := c.ps.length) (nl := c.ls.length) (cp := cp) (cl := cl) c h.1 h.2 w)
  have HR := fun w' (hb : Stp W w') => Lib.hid (rRight_any c (hw.wf h.1 h.2) (hp.stp hb) (hl.stp hb))
  rw [rtB_yes hr] at HR
  have g1 : (100 : Int) < (zs.length : Int) := by omega
  clear hw h hp hl hv hz hr
  go_enter Tryz.func7, Tryz.ntmps7
  go_wp2_with fail
  refine Hh.out.mono ?_
  rintro e w1 ⟨rfl, hO⟩
  obtain ⟨d0, d1, d2, d3, d4, d5, d6, d7⟩ := conf_cells hO
  go_wp2_with fail
  refine (HG _).out.mono ?_
  rintro e w2 ⟨rfl, hB⟩
  have hO := hO.below hB
  clear hB HG Hh d0 d1 d2 d3 d4 d5 d6 d7
  obtain ⟨d0, d1, d2, d3, d4, d5, d6, d7⟩ := conf_cells hO
  go_wp2_with fail
  refine (HR _ hO.toBelow).out.mono ?_
  rintro e w3 ⟨rfl, hB⟩
  have hO := hO.below hB
  clear hB HR d0 d1 d2 d3 d4 d5 d6 d7
  have HB := Lib.hid hO.toBelow
  clear hO
  go_wp2_with fail
  go_ret
  exact ⟨rfl, HB.out⟩
set_option maxHeartbeats 20000000 in
theorem UsageLive_main (W : World) (c : Cf) {vp vl v : Value} {zs : List Int} (hw : Wide c) (hp : IntsAt W .i64 vp c.ps) (hl : IntsAt W .i64 vl c.ls) (hv : IntsAt W .i64 v zs) (hz : ∀ n ∈ zs, I64 n) (hm : zs.length ≤ maxLen) (h : c.ps.length ≤ 100 ∧ c.ls.length ≤ 100) (hr : c.Rt) (hq : zs.length ≤ 100) (a : Int) (a0 : IntKind.u8.min ≤ a) (a1 : a ≤ IntKind.u8.max) (vn : Int) (vn0 : IntKind.u32.min ≤ vn) (vn1 : vn ≤ IntKind.u32.max) (st : Int) (st0 : IntKind.u8.min ≤ st) (st1 : st ≤ IntKind.u8.max) :
    Calls Tryz.prog 7 #[cfV c vp vl, v, .int .u8 a, .int .u32 vn, .int .u8 st] W fun e w' => e = .returned (.bool true) ∧ Below W.heap.size W w' := by
  obtain ⟨pp, cp, rfl⟩ := hp.slice
  obtain ⟨pl, cl, rfl⟩ := hl.slice
  obtain ⟨pv, cv, rfl⟩ := hv.slice
  have h0 := (Own.start W).new (cfO c (.slice pp c.ps.length cp) (.slice pl c.ls.length cl))
  have Hh := Lib.hid (head14_any h0)
  clear h0
  have HG := fun w => Lib.hid (Great_no (pp := pp) (pl := pl) (np := c.ps.length) (nl := c.ls.length) (cp := cp) (cl := cl) c h.1 h.2 w)
  have HR := fun w' (hb : Stp W w') => Lib.hid (rRight_any c (hw.wf h.1 h.2) (hp.stp hb) (hl.stp hb))
  rw [rtB_yes hr] at HR
  have hn0 := hr.n0
  have hn1 := hr.n1
  have hti := ti_nat hr
  have HRw := fun w L (h : Own W NoF L w) => Lib.hid (uRaw_any hr hp hl hv hq h)
  have hlen : (rawW c zs (rawR c zs)).length = sizeN c := rawW_len c zs _
  have hwf : ∀ k, I64 ((rawW c zs (rawR c zs)).getD k 0) := rawW_wf hr hz _
  have Hp := Lib.hid (show ∀ w', Stp W w' → IntsAt w' .i64 (.slice pp c.ps.length cp) c.ps from fun w' hb => hp.stp hb)
  have Hl := Lib.hid (show ∀ w', Stp W w' → IntsAt w' .i64 (.slice pl c.ls.length cl) c.ls from fun w' hb => hl.stp hb)
  have g1 : ¬ ((100 : Int) < (zs.length : Int)) := by omega
  generalize rawW c zs (rawR c zs) = ws at *
  have a2 : 0 ≤ a := a0
  have a3 : a ≤ 255 := a1
  have s2 : 0 ≤ st := st0
  have s3 : st ≤ 255 := st1
  have v2 : 0 ≤ vn := vn0
  have v3 : vn ≤ 4294967295 := vn1
  clear a0 a1 st0 st1 vn0 vn1
  obtain ⟨K, hK⟩ : ∃ K : Nat, a % c.ti = (K : Int) := ⟨(a % c.ti).toNat, by have := Int.emod_nonneg a (show c.ti ≠ 0 by omega); omega⟩
  have hK1 : K < c.ti.toNat := by have := Int.emod_lt_of_pos a (show 0 < c.ti by omega); omega
  obtain ⟨S, hS⟩ : ∃ S : Nat, st % 4 = (S : Int) := ⟨(st % 4).toNat, by omega⟩
  have hS3 : (S : Int) ≤ 3 := by omega
  have eA : a.tmod c.ti = (K : Int) := by rw [← hK]; exact Int.tmod_eq_emod_of_nonneg a2
  have eS : st.tmod 4 = (S : Int) := by rw [← hS]; exact Int.tmod_eq_emod_of_nonneg s2
  have eA2 : IntKind.i64.wrap a = a := IntWalk.i64_in _ (by omega)
  have eS2 : IntKind.i64.wrap st = st := IntWalk.i64_in _ (by omega)
  have eV2 : IntKind.i64.wrap vn = vn := IntWalk.i64_in _ (by omega)
  have htz : ¬ c.ti = 0 := by omega
  have hIn : tkN c K < ws.length := by rw [hlen]; unfold tkN sizeN; omega
  have HTk := fun w' => (show Calls Tryz.prog 39 #[cfV c (.slice pp c.ps.length cp) (.slice pl c.ls.length cl), .int .i64 K] w' fun e w'' => e = .returned (.int .i64 (tkN c K)) ∧ Below w'.heap.size w' w'' from by
    have h := rTicket_q (pp := pp) (np := c.ps.length) (cp := cp) (pl := pl) (nl := c.ls.length) (cl := cl) c hr.sm hn1 (K : Int) (by omega) (by omega) w'
    rw [limN_eq hr.sm] at h
    rw [show ((tkN c K : Nat) : Int) = (limN c c.ps.length : Int) + 2 * (K : Int) from by unfold tkN; omega]
    exact h)
  have hlen2 : (ws.set (tkN c K) (liveWd vn S)).length = sizeN c := by rw [List.length_set]; exact hlen
  have hwf2 : ∀ k, I64 ((ws.set (tkN c K) (liveWd vn S)).getD k 0) := by
    intro k
    rw [getD_set]
    split
    · exact liveWd_I _ _
    · exact hwf k
  have HV := fun (vr : Value) w' (hv : IntsAt w' .i64 vr (ws.set (tkN c K) (liveWd vn S))) => Lib.hid (uLive_any (w := w') (vr := vr) (pp := pp) (cp := cp) (pl := pl) (cl := cl) hr hlen2 hwf2 K hK1 hv)
  have r1 : livB c (ws.set (tkN c K) (liveWd vn S)) K = true → (S : Int) = 2 := fun h => by
    have h := (of_decide_eq_true h).1
    rw [getD_set, if_pos ⟨rfl, hIn⟩, liveWd_st _ _ (by omega) hS3] at h
    exact h
  have r2 := fun h => liv_bd (c := c) (ws := ws.set (tkN c K) (liveWd vn S)) K h
  have r3 : livB c (ws.set (tkN c K) (liveWd vn S)) K = false → livV c (ws.set (tkN c K) (liveWd vn S)) K = 0 ∧ livN c (ws.set (tkN c K) (liveWd vn S)) K = 0 := fun h => ⟨by unfold livV; rw [h]; rfl, by unfold livN; rw [h]; rfl⟩
  have HLen := Lib.hid hlen
  clear hw h hp hl hv hz hr hlen hwf hti hK hS hlen2 hwf2 Hp Hl
  generalize livB c (ws.set (tkN c K) (liveWd vn S)) K = LB at *
  generalize livV c (ws.set (tkN c K) (liveWd vn S)) K = LV at *
  generalize livN c (ws.set (tkN c K) (liveWd vn S)) K = LN at *
  generalize tkN c K = T at *
  go_enter Tryz.func7, Tryz.ntmps7
  go_wp2_with fail
  refine Hh.out.mono ?_
  rintro e w1 ⟨rfl, hO⟩
  obtain ⟨d0, d1, d2, d3, d4, d5, d6, d7⟩ := conf_cells hO
  go_wp2_with fail
  refine (HG _).out.mono ?_
  rintro e w2 ⟨rfl, hB⟩
  have hO := hO.below hB
  clear hB HG Hh d0 d1 d2 d3 d4 d5 d6 d7
  obtain ⟨d0, d1, d2, d3, d4, d5, d6, d7⟩ := conf_cells hO
  go_wp2_with fail
  refine (HR _ hO.toBelow).out.mono ?_
  rintro e w3 ⟨rfl, hB⟩
  have hO := hO.below hB
  clear hB HR d0 d1 d2 d3 d4 d5 d6 d7
  obtain ⟨d0, d1, d2, d3, d4, d5, d6, d7⟩ := conf_cells hO
  go_wp2_with fail
  refine (HRw _ _ hO).out.mono ?_
  rintro e w4 ⟨vw, rfl, hO⟩
  rw [← HLen.out] at hO
  clear HRw d0 d1 d2 d3 d4 d5 d6 d7
  obtain ⟨d0, d1, d2, d3, d4, d5, d6, d7⟩ := conf_cells hO.swap
  have hO1 := hO
  obtain ⟨g', cap', cur, rfl, -, -, -, -, -, -⟩ := hO1.rowBlk (by omega)
  clear hO1
  have HO := Lib.hid hO
  have hlz : T < ws.length := hIn
  clear hO
  go_wp2_with fail
  refine (HTk _).mono ?_
  rintro e w5 ⟨rfl, hB⟩
  have hO := HO.out.below hB
  clear hB HO HTk d0 d1 d2 d3 d4 d5 d6 d7
  obtain ⟨hP, f1⟩ := hO.rowPut T (by omega) (.int .i64 (liveWd vn S))
  rw [← intC_set] at hP
  have c1 : w5.cell? ⟨g', T, none⟩ = some (.int .i64 (ws.getD T 0)) := by
    have hu := intC_get ws T hIn
    have := hO.isRow.cells rfl T _ hu
    rw [add_plain, Nat.zero_add] at this
    exact this
  generalize ws.getD T 0 = y1 at c1
  have g6 : (T : Int) < (ws.length : Int) := by omega
  have hP : Own W NoF (row (.slice (some ⟨g', 0, none⟩) (ws.set T (liveWd vn S)).length cap') 3 1 (ws.set T (liveWd vn S)).length (intC (ws.set T (liveWd vn S))) :: [blk W.heap.size (cfO c (.slice pp c.ps.length cp) (.slice pl c.ls.length cl))]) (w5.setCell ⟨g', T, none⟩ (.int .i64 (wrap64 (wrap64 (vn * 4294967296) + (S : Int))))) := by
    rw [List.length_set]; exact hP
  obtain ⟨d0, d1, d2, d3, d4, d5, d6, d7⟩ := conf_cells hP.swap
  have HI := Lib.hid (HV _ _ hP.intsAt)
  rw [List.length_set] at HI
  have HO := Lib.hid hP
  clear hO hP HV
  go_wp2_with fail
  refine HI.out.out.mono ?_
  rintro e w7 ⟨rfl, hB⟩
  have hO := HO.out.below hB
  clear HI HO hB d0 d1 d2 d3 d4 d5 d6 d7
  obtain ⟨d0, d1, d2, d3, d4, d5, d6, d7⟩ := conf_cells hO.swap
  have HB := Lib.hid hO.toBelow
  clear hO
  cases LB with
  | false =>
    obtain ⟨rfl, rfl⟩ := r3 rfl
    clear r1 r2 r3
    by_cases hs2 : (S : Int) = 2
    · rw [hs2]
      go_wp2_with fail
      go_ret
      exact ⟨rfl, HB.out⟩
    · go_wp2_with fail
      go_ret
      exact ⟨rfl, HB.out⟩
  | true =>
    have e2 := r1 rfl
    obtain ⟨i1, i2, i3, i4⟩ := r2 rfl
    clear r1 r2 r3
    rw [e2]
    go_wp2_with fail
    go_ret
    exact ⟨rfl, HB.out⟩
theorem UsageLive_calls (W : World) (c : Cf) (vp vl : Value) (hwd : Wide c) (hp : IntsAt W .i64 vp c.ps) (hl : IntsAt W .i64 vl c.ls) (v : Value) (zs : List Int) (hm : zs.length ≤ maxLen) (hzw : ∀ n ∈ zs, (Lit.int .i64 n).wf = true) (hv : IntsAt W .i64 v zs) (a : Int) (a0 : IntKind.u8.min ≤ a) (a1 : a ≤ IntKind.u8.max) (vn : Int) (vn0 : IntKind.u32.min ≤ vn) (vn1 : vn ≤ IntKind.u32.max) (st : Int) (st0 : IntKind.u8.min ≤ st) (st1 : st ≤ IntKind.u8.max) :
    Calls Tryz.prog 7 #[cfV c vp vl, v, .int .u8 a, .int .u32 vn, .int .u8 st] W fun e w' => e = .returned (.bool true) ∧ Below W.heap.size W w' := by
  have hz : ∀ n ∈ zs, I64 n := fun n hn => law_wf (hzw n hn)
  by_cases h : c.ps.length ≤ 100 ∧ c.ls.length ≤ 100
  · by_cases hr : c.Rt
    · by_cases hq : zs.length ≤ 100
      · exact UsageLive_main W c hwd hp hl hv hz hm h hr hq a a0 a1 vn vn0 vn1 st st0 st1
      · exact UsageLive_long W c hwd hp hl hv hz hm h hr (by omega) a a0 a1 vn vn0 vn1 st st0 st1
    · exact UsageLive_wrong W c hwd hp hl hv hz hm h hr a a0 a1 vn vn0 vn1 st st0 st1
  · exact UsageLive_great W c hwd hp hl hv hz hm h a a0 a1 vn vn0 vn1 st st0 st1
end Go.Proofs.YtlpdafldabfiaaaGreat
