/- UsageWay. Written by tools/gen_rel*.py. -/
import Derived.Test.YtlpdafldabfiaaaGreatC3
import Derived.Test.YtlpdafldabfiaaaGreatC10
import Derived.Test.YtlpdafldabfiaaaGreatC20
import Derived.Test.YtlpdafldabfiaaaGreatC21
import Derived.Test.YtlpdafldabfiaaaGreatC34
import Derived.Test.YtlpdafldabfiaaaGreatC41
import Derived.Test.YtlpdafldabfiaaaGreatC42
import Derived.Test.YtlpdafldabfiaaaGreatC44
import Derived.Test.YtlpdafldabfiaaaGreatC45
import Derived.Test.YtlpdafldabfiaaaGreatC47
import Derived.Test.YtlpdafldabfiaaaGreatC48
import Derived.Lib.QuietBelow
import Derived.Deep.RegionWith
import Derived.StillTailTactics
namespace Go.Proofs.YtlpdafldabfiaaaGreat
open Go.ChangeShapes Go.WideShapes Go.ChangeAt Go.RowKit Go.Shelf
set_option linter.unusedVariables false
set_option linter.unusedSimpArgs false
set_option maxRecDepth 100000
theorem noav_wf {x : Ak} (h : x.Wf) : (⟨x.c, x.lf, x.n, x.th, x.bs, [], x.l⟩ : Ak).Wf := ⟨h.d0, h.d1, h.n0, h.n1, h.t0, h.t1, h.bm, fun i hi => by simp at hi, by unfold maxLen; simp, h.l, h.lm⟩
structure WI (p : DP) (B0 : Int) (ws0 : List Int) (t : Nat) (s : DS) (ws : List Int) (lg : List Acc) : Prop where
  w : DW p.c (bt B0 t) ws
  ok : DSOk p (bt B0 t) s
  u : UW p ws0 s ws
  lg : lg.length ≤ t
theorem WI.start {p : DP} (hp : p.Ok) {B0 : Int} {ws0 : List Int} (hw : DW p.c B0 ws0) : WI p B0 ws0 0 (s0D p) ws0 [] := by
  have e : bt B0 0 = B0 := by unfold bt; simp
  exact ⟨by rw [e]; exact hw, s0D_ok hp _, UW.start p ws0, Nat.le_refl _⟩
theorem WI.next {p : DP} (hp : p.Ok) {B0 : Int} (hB0 : B0 ≤ 10000000000000) {ws0 ws : List Int} {t : Nat} {s : DS} {lg : List Acc} (ht : t ≤ 1000) (h6 : s.ph ≠ 6) (h : WI p B0 ws0 t s ws lg) : WI p B0 ws0 (t + 1) (stepD p s ws lg).1 (stepD p s ws lg).2.1 (stepD p s ws lg).2.2.1 := by
  have hB := bt_le (B0 := B0) (t := t) hB0 (by omega)
  have a1 := DW.step (lg := lg) hp hB h.w h.ok h6
  have a2 := DSOk.step (lg := lg) hp hB h.w h.ok h6
  have a3 := stepD_log (lg := lg) hp hB h.w h.ok h6
  rw [← bt_succ] at a1
  exact ⟨a1, a2.more (by rw [bt_succ]; omega), h.u.step hp hB h.w h.ok h6, by have := h.lg; omega⟩
theorem WI.held {x : Ak} (hr : x.c.Rt) {B0 : Int} {ws0 ws : List Int} {t : Nat} {s : DS} {lg : List Acc} (hC : Calm x.c ws0) (h : WI x.p B0 ws0 t s ws lg) (u : Nat) (hu : u < x.c.ps.length) :
    ∃ y : Int, heldW x.c ws u = y ∧ 0 ≤ y ∧ y ≤ (if onB x.c.ps x.v u = true then x.k + x.c.le else 0) ∧ usedU x.c ws u ≤ ws.getD (limN x.c u) 0 ∧ (s.ph = 6 → y = 0) := by
  have h1 := UW.held (p := x.p) (Ak.p_ok hr) h.ok h.u hC.held h.w u hu
  obtain ⟨b1, b2, b3⟩ := held_bd (p := x.p) (Ak.p_ok hr) h.ok u
  have e : heldW x.c ws u = wrap64 (ws.getD (limN x.c u) 0 - leftU x.c u ws - usedU x.c ws u) := rfl
  have h1' : ws.getD (limN x.c u) 0 - leftU x.c u ws - usedU x.c ws u = balU x.p s u - ownT x.p s u := h1.1
  have hk := Ak.k_bd (x := x)
  have hle := hr.le
  unfold Bd at hle
  have b2' : balU x.p s u - ownT x.p s u ≤ (if onB x.c.ps x.v u = true then x.k + x.c.le else 0) := by
    refine Int.le_trans b2 ?_
    show (if On x.c.ps x.v u then x.k + x.c.le else 0) ≤ _
    by_cases ho : On x.c.ps x.v u
    · rw [if_pos ho, if_pos (onB_iff.2 ho)]; omega
    · rw [if_neg ho, if_neg (fun q => ho (onB_iff.1 q))]; omega
  have b4 : balU x.p s u - ownT x.p s u ≤ 10000000 := by
    refine Int.le_trans b2' ?_
    split <;> omega
  refine ⟨_, rfl, ?_⟩
  rw [e, h1']
  have ew : wrap64 (balU x.p s u - ownT x.p s u) = balU x.p s u - ownT x.p s u := by unfold wrap64; omega
  rw [ew]
  exact ⟨b1, b2', h1.2, b3⟩
theorem rUnder_at {x : Ak} {w : World} {vp vl : Value} (hr : x.c.Rt) (hp : IntsAt w .i64 vp x.c.ps) (hl : IntsAt w .i64 vl x.c.ls) (u : Nat) :
    Calls Tryz.prog 37 #[cfV x.c vp vl, .int .i64 x.v, .int .i64 u] w fun e w' => e = .returned (.bool (onB x.c.ps x.v u)) ∧ Below w.heap.size w w' := rUnder_any x.c hr.tr hp hl x.v u
theorem UsageWay_bad (W : World) (x : Ak) {vp vl vb va vk : Value} (H : AkAt W x vp vl vb va vk) (hg : ¬ GoodA x) (vq : Value) (q : List Int) (ql : q.length ≤ maxLen) (qw : ∀ n ∈ q, (Lit.int .u16 n).wf = true) (qv : IntsAt W .u16 vq q) :
    Calls Tryz.prog 6 #[akV x vp vl vb va vk, vq] W fun e w' => e = .returned (.bool true) ∧ Below W.heap.size W w' := by
  obtain ⟨pp, cp, rfl⟩ := H.p.slice
  obtain ⟨pl, cl, rfl⟩ := H.l.slice
  obtain ⟨pq, cq, rfl⟩ := qv.slice
  have h0 := (Own.start W).new (akO x (.slice pp x.c.ps.length cp) (.slice pl x.c.ls.length cl) vb va vk)
  have Hh := Lib.hid (head14_any h0)
  have HG := fun w' (hb : Stp W w') => Lib.hid (aGood_no (w := w') (H.stp hb) hg)
  clear h0 hg
  unfold akV at HG ⊢
  clear H
  go_enter Tryz.func6, Tryz.ntmps6
  go_wp2_with fail
  refine Hh.out.mono ?_
  rintro e w1 ⟨rfl, hO⟩
  obtain ⟨d0, d1, d2, d3, d4, d5, d6, d7, d8, d9, d10, d11, d12, d13⟩ := akCells hO
  go_wp2_with fail
  refine (HG _ hO.toBelow).out.mono ?_
  rintro e w2 ⟨rfl, hB⟩
  have hO := hO.below hB
  clear hB HG Hh d0 d1 d2 d3 d4 d5 d6 d7 d8 d9 d10 d11 d12 d13
  have HB := Lib.hid hO.toBelow
  clear hO
  go_wp2_with fail
  go_ret
  exact ⟨rfl, HB.out⟩
theorem UsageWay_long (W : World) (x : Ak) {vp vl vb va vk : Value} (H : AkAt W x vp vl vb va vk) (hg : GoodA x) (vq : Value) (q : List Int) (ql : q.length ≤ maxLen) (qw : ∀ n ∈ q, (Lit.int .u16 n).wf = true) (qv : IntsAt W .u16 vq q) (hq : 20 < q.length) :
    Calls Tryz.prog 6 #[akV x vp vl vb va vk, vq] W fun e w' => e = .returned (.bool true) ∧ Below W.heap.size W w' := by
  obtain ⟨pp, cp, rfl⟩ := H.p.slice
  obtain ⟨pl, cl, rfl⟩ := H.l.slice
  obtain ⟨pq, cq, rfl⟩ := qv.slice
  have h0 := (Own.start W).new (akO x (.slice pp x.c.ps.length cp) (.slice pl x.c.ls.length cl) vb va vk)
  have Hh := Lib.hid (head14_any h0)
  have HG := fun w' (hb : Stp W w') => Lib.hid (aGood_yes (w := w') (H.stp hb) hg)
  have g1 : (20 : Int) < (q.length : Int) := by omega
  clear h0 hg
  unfold akV at HG ⊢
  clear H
  go_enter Tryz.func6, Tryz.ntmps6
  go_wp2_with fail
  refine Hh.out.mono ?_
  rintro e w1 ⟨rfl, hO⟩
  obtain ⟨d0, d1, d2, d3, d4, d5, d6, d7, d8, d9, d10, d11, d12, d13⟩ := akCells hO
  go_wp2_with fail
  refine (HG _ hO.toBelow).out.mono ?_
  rintro e w2 ⟨rfl, hB⟩
  have hO := hO.below hB
  clear hB HG Hh d0 d1 d2 d3 d4 d5 d6 d7 d8 d9 d10 d11 d12 d13
  have HB := Lib.hid hO.toBelow
  clear hO
  go_wp2_with fail
  go_ret
  exact ⟨rfl, HB.out⟩
set_option maxHeartbeats 20000000 in
theorem UsageWay_in (W : World) (x : Ak) {vp vl vb va vk : Value} (H : AkAt W x vp vl vb (.slice none 0 0) vk) (hav : x.av = []) (HG : ∀ w', Stp W w' → Hid (Calls Tryz.prog 30 #[akV x vp vl vb va vk] w' fun e w'' => e = .returned (.bool true) ∧ Below w'.heap.size w' w'')) (hg : GoodA x) (vq : Value) (q : List Int) (ql : q.length ≤ maxLen) (qw : ∀ n ∈ q, (Lit.int .u16 n).wf = true) (qv : IntsAt W .u16 vq q) (hq : ¬ 20 < q.length) :
    Calls Tryz.prog 6 #[akV x vp vl vb va vk, vq] W fun e w' => e = .returned (.bool true) ∧ Below W.heap.size W w' := by
  obtain ⟨pp, cp, rfl⟩ := H.p.slice
  obtain ⟨pl, cl, rfl⟩ := H.l.slice
  obtain ⟨pq, cq, rfl⟩ := qv.slice
  have h0 := (Own.start W).new (akO x (.slice pp x.c.ps.length cp) (.slice pl x.c.ls.length cl) vb va vk)
  have Hh := Lib.hid (head14_any h0)
  have hr := hg.rt
  have hwfx := H.wf
  have hq20 : ¬ (20 : Int) < (q.length : Int) := by omega
  have hqu : ∀ y ∈ q, 0 ≤ y ∧ y ≤ 65535 := fun y hy => (show (0 : Int) ≤ y ∧ y ≤ 65535 from law_wf (qw y hy))
  have HWd := fun w L (h : Own W NoF L w) => Lib.hid (relWords_any H hg qv hqu (by omega) h)
  have HOf := fun w' (hb : Stp W w') => Lib.hid (aOf_any (H.stp hb) hr)
  have hnr : nR q ≤ 4 := by unfold nR; omega
  have HWR := Lib.hid (wr_any (l := q) hr hwfx (nR q) hnr)
  have HNR := Lib.hid hnr
  have HCm := Lib.hid (wd_calm (l := q) hr hwfx hav (nR q) hnr)
  have HEv := Lib.hid (fun u hu => wd_even (l := q) hr hwfx u hu (nR q) hnr)
  have Hp := Lib.hid H.p
  have Hl := Lib.hid H.l
  have Hr := Lib.hid hr
  have Hwx := Lib.hid hwfx
  have hn0 := hr.n0
  have hn1 := hr.n1
  clear h0 hg hr hwfx hqu qw qv ql hav hnr
  unfold akV at HG HWd HOf ⊢
  clear H
  go_enter Tryz.func6, Tryz.ntmps6
  go_wp2_with fail
  refine Hh.out.mono ?_
  rintro e w1 ⟨rfl, hO⟩
  obtain ⟨d0, d1, d2, d3, d4, d5, d6, d7, d8, d9, d10, d11, d12, d13⟩ := akCells hO
  go_wp2_with fail
  refine (HG _ hO.toBelow).out.mono ?_
  rintro e w2 ⟨rfl, hB⟩
  have hO := hO.below hB
  clear hB HG Hh d0 d1 d2 d3 d4 d5 d6 d7 d8 d9 d10 d11 d12 d13
  have f12 : w2.frozen? ⟨W.heap.size, 12, none⟩ = false := by unfold akO at hO; exact hO.unfrozen
  have hO2 : Own W NoF [blk W.heap.size (akO x (.slice pp x.c.ps.length cp) (.slice pl x.c.ls.length cl) vb (.slice none 0 0) vk)] (w2.setCell ⟨W.heap.size, 12, none⟩ (.slice none 0 0)) := by unfold akO at hO ⊢; exact hO.set 12 (.slice none 0 0)
  obtain ⟨d0, d1, d2, d3, d4, d5, d6, d7, d8, d9, d10, d11, d12, d13⟩ := akCells hO
  obtain ⟨z0, z1, z2, z3, z4, z5, z6, z7, z8, z9, z10, z11, z12, z13⟩ := akCells hO2
  have HO2 := Lib.hid hO2
  have HWd2 := HWd _ _ hO2
  generalize nR q = NR at *
  generalize hWS : wdR x q NR = ws at *
  generalize hdR x q NR = hs at *
  have HWS := Lib.hid hWS
  clear hWS hO hO2
  go_wp2_with fail
  refine HWd2.out.mono ?_
  rintro e w4 ⟨vw, vh, rfl, hO⟩
  clear HWd HWd2 HO2 f12 z0 z1 z2 z3 z4 z5 z6 z7 z8 z9 z10 z11 z12 z13 d0 d1 d2 d3 d4 d5 d6 d7 d8 d9 d10 d11 d12 d13
  obtain ⟨B0, ts, hB0, hB1, hWR⟩ : ∃ (B0 : Int) (ts : List Nat), B0 ≤ 9000000000000 ∧ 1099511627776 ≤ B0 ∧ WR x.c (akW x) B0 ts hs ws := by
    obtain ⟨ts, h⟩ := HWR.out
    exact ⟨_, ts, by have := HNR.out; omega, by omega, h⟩
  have hlen : 2 ≤ ws.length ∧ ws.length ≤ 400 := by
    have h1 := sizeN_bd Hr.out
    have h2 := (ti_nat Hr.out).2.1
    have h3 := hWR.w.len
    unfold sizeN at h1 h3
    omega
  have HLn := Lib.hid hWR.w.len
  rw [← HLn.out] at hO
  obtain ⟨pw, cw, rfl⟩ := row_slice hO
  obtain ⟨ph, ch, rfl⟩ := row_slice hO.swap
  clear HWR HNR
  have HWR := Lib.hid hWR
  clear hWR
  have HOf1 := HOf _ hO.toBelow
  have HO := Lib.hid hO
  obtain ⟨d0, d1, d2, d3, d4, d5, d6, d7, d8, d9, d10, d11, d12, d13⟩ := akCells hO.p2
  clear hO HOf
  go_wp2_with fail
  refine HOf1.out.mono ?_
  rintro e w5 ⟨rfl, hB⟩
  have hO := HO.out.below hB
  clear HO hB HOf1 d0 d1 d2 d3 d4 d5 d6 d7 d8 d9 d10 d11 d12 d13
  have hB := (hO.rowNil (e := 104) (size := 5)).new (.cells #[.slice pw ws.length cw, .slice none 0 0] 36)
  have hM : Own W NoF (memA 36 w5.heap.size ws [] :: row (.slice ph hs.length ch) 3 1 hs.length (intC hs) :: [blk W.heap.size (akO x (.slice pp x.c.ps.length cp) (.slice pl x.c.ls.length cl) vb (.slice none 0 0) vk)]) _ := Own.toMem' (ws := ws) (l := []) (hB.under fun _ _ h => h.swap) rfl rfl rfl rfl
  have hM2 := hM.under fun _ _ h => h.drop
  have HNw := Lib.hid (show Calls Tryz.prog 35 #[cfV x.c (.slice pp x.c.ps.length cp) (.slice pl x.c.ls.length cl), .int .i64 x.v, .int .i64 x.k, .int .i64 x.t] _ (fun e w' => ∃ k, e = .returned (.pointer (some ⟨k, 0, none⟩)) ∧ Own W NoF (rdA k x.p (s0D x.p) :: memA 36 w5.heap.size ws [] :: [blk W.heap.size (akO x (.slice pp x.c.ps.length cp) (.slice pl x.c.ls.length cl) vb (.slice none 0 0) vk)]) w') from rdNew_any (w0 := W) (F0 := NoF) (Ak.p x) (Ak.p_ok Hr.out) (Hp.out.stp hM2.toBelow) (Hl.out.stp hM2.toBelow) hM2)
  obtain ⟨d0, d1, d2, d3, d4, d5, d6, d7, d8, d9, d10, d11, d12, d13⟩ := akCells hM2.swap
  clear hO hB hM hM2
  go_wp2_with fail
  generalize w5.heap.size = m at *
  refine HNw.out.mono ?_
  rintro e w6 ⟨k, rfl, hO⟩
  clear HNw d0 d1 d2 d3 d4 d5 d6 d7 d8 d9 d10 d11 d12 d13
  have HW0 := Lib.hid (WI.start (p := x.p) (Ak.p_ok Hr.out) (show DW x.p.c B0 ws from HWR.out.w))
  have HNX := Lib.hid (fun (t : Nat) s ws1 lg (ht : t ≤ 1000) (h6 : s.ph ≠ 6) (h : WI x.p B0 ws t s ws1 lg) => WI.next (Ak.p_ok Hr.out) (by omega) ht h6 h)
  have HHD := Lib.hid (fun (t : Nat) s ws1 lg (h : WI x.p B0 ws t s ws1 lg) u hu => WI.held Hr.out HCm.out h u hu)
  have HST0 := Lib.hid (fun (L : List Asn) s ws1 lg w (ok : (rdM k x.p).ok s ws1 lg) h => rd_steps (w0 := W) (F0 := NoF) k m 36 x.p L s ws1 lg w ok h)
  have HOK := Lib.hid (show ∀ (t : Nat) s ws1 lg, t ≤ 1000 → WI x.p B0 ws t s ws1 lg → (rdM k x.p).ok s ws1 lg from fun t s ws1 lg ht h => ⟨Ak.p_ok Hr.out, ⟨bt B0 t, bt_le (by omega) (by omega), h.w, h.ok⟩, by have := h.lg; omega⟩)
  have HFL := Lib.hid (show ∀ (t : Nat) s ws1 lg, WI x.p B0 ws t s ws1 lg → (stepD x.p s ws1 lg).2.2.2 = decide ((stepD x.p s ws1 lg).1.ph = 6) from fun t s ws1 lg h => stepD_flag h.ok)
  have HLN := Lib.hid (show ∀ (t : Nat) s ws1 lg, WI x.p B0 ws t s ws1 lg → ws1.length = sizeN x.c ∧ (∀ k, I64 (ws1.getD k 0)) from fun t s ws1 lg h => ⟨h.w.len, h.w.wf⟩)
  have HH := fun (ws1 : List Int) (hl : ws1.length = sizeN x.c) (hw : ∀ k, I64 (ws1.getD k 0)) (u : Nat) hu (vr : Value) w' (hv : IntsAt w' .i64 vr ws1) (hs : Stp W w') => Lib.hid (uHeld_any (w := w') (vr := vr) (pp := pp) (cp := cp) (pl := pl) (cl := cl) Hr.out hl hw u hu hv (Hp.out.stp hs) (Hl.out.stp hs))
  have HU := fun (ws1 : List Int) (hl : ws1.length = sizeN x.c) (hw : ∀ k, I64 (ws1.getD k 0)) (u : Nat) (vr : Value) w' (hv : IntsAt w' .i64 vr ws1) (hs : Stp W w') => Lib.hid (uUsed_any (w := w') (vr := vr) (pp := pp) (cp := cp) (pl := pl) (cl := cl) Hr.out hl hw u hv (Hp.out.stp hs) (Hl.out.stp hs))
  have HUn := fun (u : Nat) w' (hs : Stp W w') => Lib.hid (rUnder_at (x := x) (w := w') Hr.out (Hp.out.stp hs) (Hl.out.stp hs) u)
  have HLi := fun (u : Nat) (hu : u < x.c.ps.length) w => Lib.hid (show Calls Tryz.prog 38 #[cfV x.c (.slice pp x.c.ps.length cp) (.slice pl x.c.ls.length cl), .int .i64 (u : Nat)] w fun e w' => e = .returned (.int .i64 (limN x.c u : Nat)) ∧ Below w.heap.size w w' from by
    have h := rLimit_q (pp := pp) (np := x.c.ps.length) (cp := cp) (pl := pl) (nl := x.c.ls.length) (cl := cl) x.c Hr.out.sm (u : Int) (by omega) (by have := Hr.out.n1; omega) w
    rw [limN_eq Hr.out.sm] at h; exact h)
  have HLt := Lib.hid (show ∀ u, u < x.c.ps.length → limN x.c u < sizeN x.c from fun u hu => by have := limN_lt x.c hu; unfold sizeN; omega)
  have HS0 := Lib.hid (show 0 < sizeN x.c from by have := HLn.out; omega)
  have hvb := (Ak.v_bd (x := x) Hr.out).1
  have HVB := Lib.hid hvb
  have hkb := Ak.k_bd (x := x)
  have hle := Hr.out.le
  unfold Bd at hle
  have hwk : IntKind.i64.wrap (x.k + x.c.le) = x.k + x.c.le := IntWalk.i64_in _ (by omega)
  have HO := Lib.hid hO
  have hs6 : (s0D x.p).ph ≠ 6 := by simp [s0D]
  have HS6 := Lib.hid hs6
  clear hO hs6 HWR HWS HCm HEv HLn hvb hlen
  go_wp2_with fail
  go_loopw [13, 14, 15, 16, 17] (fun v13 v14 v15 v16 v17 wr => ∃ (t : Nat) (s : DS) (w1 : List Int) (lg : List Acc), t ≤ 400 ∧ v13 = .int .i64 t ∧ WI x.p B0 ws t s w1 lg ∧ s.ph ≠ 6 ∧ Own W NoF (rdA k x.p s :: memA 36 m w1 lg :: [blk W.heap.size (akO x (.slice pp x.c.ps.length cp) (.slice pl x.c.ls.length cl) vb (.slice none 0 0) vk)]) wr) (fun v13 v14 v15 v16 v17 _ => 400 - (intOf v13).toNat)
  case atStart => exact ⟨0, _, ws, [], by omega, rfl, HW0.out, HS6.out, HO.out⟩
  case round =>
    obtain ⟨t, s, w1, lg, ht, rfl, hW, hs6, hO⟩ := hrel
    clear HO HW0 HS6
    by_cases hlt : t < 400
    · have g3 : (t : Int) < 400 := by omega
      have hST := HST0.out _ s w1 lg wr (HOK.out t s w1 lg (by omega) hW) hO
      have hW2 := HNX.out t s w1 lg (by omega) hs6 hW
      have hF := HFL.out t s w1 lg hW
      simp only [rdM] at hST
      generalize (stepD x.p s w1 lg).1 = s2 at *
      generalize (stepD x.p s w1 lg).2.1 = wz at *
      generalize (stepD x.p s w1 lg).2.2.1 = lz at *
      generalize (stepD x.p s w1 lg).2.2.2 = q at *
      have HF := Lib.hid hF
      have HW2 := Lib.hid hW2
      have HST := Lib.hid hST
      obtain ⟨hlz, hwz⟩ := HLN.out _ _ _ _ hW2
      have HLZ := Lib.hid hlz
      have HH1 := HH wz hlz hwz
      have HU1 := HU wz hlz hwz
      have hHD := HHD.out _ _ _ _ hW2
      have HHD1 := Lib.hid hHD
      clear hF hW2 hST hW hs6 hO hlz hwz hHD HH HU HST0 HOK HFL HLN HNX HHD
      go_wp2_with fail
      refine HST.out.mono ?_
      rintro e w7 ⟨rfl, hO⟩
      clear HST
      obtain ⟨vw, vl, hM⟩ := hO.swap.mem
      obtain ⟨bz, oz, cz, rfl, -⟩ := (hM.swap.intsAt).at (by have := HLZ.out; have := HS0.out; omega)
      have HO := Lib.hid (show Own W NoF (blk m (.cells #[.slice (some ⟨bz, oz, none⟩) wz.length cz, vl] 36 (0, 0)) :: row (.slice (some ⟨bz, oz, none⟩) wz.length cz) 3 1 wz.length (intC wz) :: row vl 104 5 lz.length (logC lz) :: rdA k x.p s2 :: [blk W.heap.size (akO x (.slice pp x.c.ps.length cp) (.slice pl x.c.ls.length cl) vb (.slice none 0 0) vk)]) w7 from hM)
      clear hO hM
      go_wp2_with fail
      go_loopw [15, 16, 17] (fun v15 v16 v17 wr => ∃ u : Nat, u ≤ x.c.ps.length ∧ v15 = .int .i64 u ∧ Own W NoF (blk m (.cells #[.slice (some ⟨bz, oz, none⟩) wz.length cz, vl] 36 (0, 0)) :: row (.slice (some ⟨bz, oz, none⟩) wz.length cz) 3 1 wz.length (intC wz) :: row vl 104 5 lz.length (logC lz) :: rdA k x.p s2 :: [blk W.heap.size (akO x (.slice pp x.c.ps.length cp) (.slice pl x.c.ls.length cl) vb (.slice none 0 0) vk)]) wr) (fun v15 v16 v17 _ => x.c.ps.length - (intOf v15).toNat)
      case atStart => exact ⟨0, Nat.zero_le _, rfl, HO.out⟩
      case round =>
        obtain ⟨u, hu, rfl, hO⟩ := hrel
        clear HO
        obtain ⟨d0, d1, d2, d3, d4, d5, d6, d7, d8, d9, d10, d11, d12, d13⟩ := akCells hO.p4
        have m0 : wr.cell? ⟨m, 0, none⟩ = some (.slice (some ⟨bz, oz, none⟩) wz.length cz) := hO.cell (i := 0) rfl
        have hI := hO.swap.intsAt
        have hT := hO.toBelow
        have HO := Lib.hid hO
        by_cases hlu : u < x.c.ps.length
        · have g4 : (u : Int) < (x.c.ps.length : Int) := by omega
          obtain ⟨y, hy, y0, y1, y2, -⟩ := HHD1.out u hlu
          have C3 := fun d os => Calls.regrown_of (HH1 u hlu _ (Go.Sort.grow (redrawn wr d) os) (hI.below (below_regrown _ d os)) (Stp.trans hT (below_regrown _ d os))).out
          rw [hy] at C3
          have Y0 := Lib.hid y0
          have Y1 := Lib.hid y1
          have Y2 := Lib.hid y2
          have HUn1 := HUn u
          have HLi1 := HLi u hlu
          have HU2 := HU1 u
          have HL1 := Lib.hid (show limN x.c u < wz.length from by have := HLt.out u hlu; have := HLZ.out; omega)
          have k0 := cell_regrown d0
          have k1 := cell_regrown d1
          have k2 := cell_regrown d2
          have k3 := cell_regrown d3
          have k4 := cell_regrown d4
          have k5 := cell_regrown d5
          have k6 := cell_regrown d6
          have k7 := cell_regrown d7
          have km := cell_regrown m0
          clear hy y0 y1 y2 hO hI hT HH1 HU1 HUn HLi
          go_wp2_with fail
          clear m0 d0 d1 d2 d3 d4 d5 d6 d7 d8 d9 d10 d11 d12 d13
          try dsimp only [List.append]
          refine wp_region_quiet_below (by kernel_rfl) (by kernel_rfl) ?_
          repeat (go_big_quiet_step (first | (go_at_call 17; with_reducible exact C3 _ _)))
          refine wpQuiet_nil ?_
          intro _ hw'
          obtain ⟨⟨dq, osq⟩, hw''⟩ := hw'
          subst hw''
          have hO := HO.out.below (below_regrown _ dq osq)
          clear k0 k1 k2 k3 k4 k5 k6 k7 km C3 HO
          generalize Go.Sort.grow (redrawn wr dq) osq = w8 at hO ⊢
          obtain ⟨d0, d1, d2, d3, d4, d5, d6, d7, d8, d9, d10, d11, d12, d13⟩ := akCells hO.p4
          have HUn2 := HUn1 _ hO.toBelow
          have HO := Lib.hid hO
          clear hO HUn1
          go_wp2_with fail
          refine HUn2.out.mono ?_
          rintro e w9 ⟨rfl, hB⟩
          have hO := HO.out.below hB
          clear HO hB HUn2 d0 d1 d2 d3 d4 d5 d6 d7 d8 d9 d10 d11 d12 d13
          obtain ⟨d0, d1, d2, d3, d4, d5, d6, d7, d8, d9, d10, d11, d12, d13⟩ := akCells hO.p4
          have m0 : w9.cell? ⟨m, 0, none⟩ = some (.slice (some ⟨bz, oz, none⟩) wz.length cz) := hO.cell (i := 0) rfl
          have hI := hO.swap.intsAt
          have hT := hO.toBelow
          have hl1 := HL1.out
          have x0 := row_cell hO.swap rfl (limN x.c u) hl1
          have C1 := fun d os => Calls.regrown_of (HU2 _ (Go.Sort.grow (redrawn w9 d) os) (hI.below (below_regrown _ d os)) (Stp.trans hT (below_regrown _ d os))).out
          have C2 := fun d os => Calls.regrown_of (HLi1 (Go.Sort.grow (redrawn w9 d) os)).out
          have g5 : ((limN x.c u : Nat) : Int) < (wz.length : Int) := by omega
          have g6 : decide (y < 0) = false := by have := Y0.out; simp; omega
          have g7 : decide (wz.getD (limN x.c u) 0 < usedU x.c wz u) = false := by have := Y2.out; simp only [decide_eq_false_iff_not]; omega
          have y1 := Y1.out
          have HO := Lib.hid hO
          generalize wz.getD (limN x.c u) 0 = li at *
          generalize usedU x.c wz u = us at *
          generalize limN x.c u = ln at *
          generalize onB x.c.ps x.v u = on at *
          clear hO hI hT Y0 Y1 Y2 HU2 HLi1 HL1
          cases on with
          | true =>
            have g8 : decide (x.k + x.c.le < y) = false := by rw [if_pos rfl] at y1; simp; omega
            clear y1
            have k0 := cell_regrown d0
            have k1 := cell_regrown d1
            have k2 := cell_regrown d2
            have k3 := cell_regrown d3
            have k4 := cell_regrown d4
            have k5 := cell_regrown d5
            have k6 := cell_regrown d6
            have k7 := cell_regrown d7
            have km := cell_regrown m0
            have kx := cell_regrown x0
            go_wp2_with fail
            clear m0 x0 d0 d1 d2 d3 d4 d5 d6 d7 d8 d9 d10 d11 d12 d13
            try dsimp only [List.append]
            refine wp_region_quiet_below (by kernel_rfl) (by kernel_rfl) ?_
            repeat (go_big_quiet_step (first | (go_at_call 15; with_reducible exact C1 _ _) | (go_at_call 38; with_reducible exact C2 _ _)))
            refine wpQuiet_nil ?_
            intro _ hw'
            obtain ⟨⟨dq, osq⟩, hw''⟩ := hw'
            subst hw''
            have HO2 := Lib.hid (HO.out.below (below_regrown _ dq osq))
            clear k0 k1 k2 k3 k4 k5 k6 k7 km kx C1 C2 HO
            go_wp2_with fail
            go_roundw
            case rel => exact ⟨u + 1, by omega, by go_num, HO2.out⟩
            case measure => simp [intOf]; omega
          | false =>
            have g8 : decide (0 < y) = false := by rw [if_neg (by decide)] at y1; simp; omega
            clear y1
            have k0 := cell_regrown d0
            have k1 := cell_regrown d1
            have k2 := cell_regrown d2
            have k3 := cell_regrown d3
            have k4 := cell_regrown d4
            have k5 := cell_regrown d5
            have k6 := cell_regrown d6
            have k7 := cell_regrown d7
            have km := cell_regrown m0
            have kx := cell_regrown x0
            go_wp2_with fail
            clear m0 x0 d0 d1 d2 d3 d4 d5 d6 d7 d8 d9 d10 d11 d12 d13
            try dsimp only [List.append]
            refine wp_region_quiet_below (by kernel_rfl) (by kernel_rfl) ?_
            repeat (go_big_quiet_step (first | (go_at_call 15; with_reducible exact C1 _ _) | (go_at_call 38; with_reducible exact C2 _ _)))
            refine wpQuiet_nil ?_
            intro _ hw'
            obtain ⟨⟨dq, osq⟩, hw''⟩ := hw'
            subst hw''
            have HO2 := Lib.hid (HO.out.below (below_regrown _ dq osq))
            clear k0 k1 k2 k3 k4 k5 k6 k7 km kx C1 C2 HO
            go_wp2_with fail
            go_roundw
            case rel => exact ⟨u + 1, by omega, by go_num, HO2.out⟩
            case measure => simp [intOf]; omega
        · have huu : u = x.c.ps.length := by omega
          have g4 : ¬ (u : Int) < (x.c.ps.length : Int) := by omega
          clear huu
          cases q with
          | true =>
            have h6 : s2.ph = 6 := of_decide_eq_true HF.out.symm
            obtain ⟨y, hy, -, -, -, y3⟩ := HHD1.out x.v HVB.out
            have C3 := fun d os => Calls.regrown_of (HH1 x.v HVB.out _ (Go.Sort.grow (redrawn wr d) os) (hI.below (below_regrown _ d os)) (Stp.trans hT (below_regrown _ d os))).out
            rw [hy, y3 h6] at C3
            have k0 := cell_regrown d0
            have k1 := cell_regrown d1
            have k2 := cell_regrown d2
            have k3 := cell_regrown d3
            have k4 := cell_regrown d4
            have k5 := cell_regrown d5
            have k6 := cell_regrown d6
            have k7 := cell_regrown d7
            have km := cell_regrown m0
            clear hy y3 h6 hO hI hT HH1 HU1 HUn HLi
            go_wp2_with fail
            clear m0 d0 d1 d2 d3 d4 d5 d6 d7 d8 d9 d10 d11 d12 d13
            try dsimp only [List.append]
            refine wp_region_quiet_below (by kernel_rfl) (by kernel_rfl) ?_
            repeat (go_big_quiet_step (first | (go_at_call 17; with_reducible exact C3 _ _)))
            refine wpQuiet_nil ?_
            intro _ hw'
            obtain ⟨⟨dq, osq⟩, hw''⟩ := hw'
            subst hw''
            have HB := Lib.hid (HO.out.below (below_regrown _ dq osq)).toBelow
            clear k0 k1 k2 k3 k4 k5 k6 k7 km C3 HO
            go_wp2_with fail
            go_ret
            exact ⟨rfl, HB.out⟩
          | false =>
            have h6 : s2.ph ≠ 6 := of_decide_eq_false HF.out.symm
            have HM := Lib.hid (Own.toMem' (ws := wz) (l := lz) hO rfl rfl rfl rfl).swap
            have H6 := Lib.hid h6
            clear hO hI hT HO m0 h6 HH1 HU1 HUn HLi
            go_wp2_with fail
            go_roundw
            case rel => exact ⟨t + 1, s2, wz, lz, by omega, by go_num, HW2.out, H6.out, HM.out⟩
            case measure => simp [intOf]; omega
    · have g3 : ¬ (t : Int) < 400 := by omega
      have HB := Lib.hid hO.toBelow
      clear hO hW
      go_wp2_with fail
      go_ret
      exact ⟨rfl, HB.out⟩
theorem UsageWay_main (W : World) (x : Ak) {vp vl vb va vk : Value} (H : AkAt W x vp vl vb va vk) (hg : GoodA x) (vq : Value) (q : List Int) (ql : q.length ≤ maxLen) (qw : ∀ n ∈ q, (Lit.int .u16 n).wf = true) (qv : IntsAt W .u16 vq q) (hq : ¬ 20 < q.length) :
    Calls Tryz.prog 6 #[akV x vp vl vb va vk, vq] W fun e w' => e = .returned (.bool true) ∧ Below W.heap.size W w' := by
  have HG := fun w' (hb : Stp W w') => Lib.hid (aGood_yes (w := w') (H.stp hb) hg)
  exact UsageWay_in W ⟨x.c, x.lf, x.n, x.th, x.bs, [], x.l⟩ (va := va) ⟨H.wd, noav_wf H.wf, H.p, H.l, H.b, Or.inl ⟨rfl, none, 0, rfl⟩, H.k⟩ rfl HG ⟨hg.rt, hg.b, by simp, hg.l⟩ vq q ql qw qv hq
theorem UsageWay_calls (W : World) (x : Ak) (vp vl vb va vk : Value) (hwd : Wide x.c) (hwf : x.Wf) (hp : IntsAt W .i64 vp x.c.ps) (hl : IntsAt W .i64 vl x.c.ls) (hb : BlsAt W vb x.bs) (ha : IntsAt W .u32 va x.av) (hk : PksAt W vk x.l) (vq : Value) (q : List Int) (ql : q.length ≤ maxLen) (qw : ∀ n ∈ q, (Lit.int .u16 n).wf = true) (qv : IntsAt W .u16 vq q) :
    Calls Tryz.prog 6 #[akV x vp vl vb va vk, vq] W fun e w' => e = .returned (.bool true) ∧ Below W.heap.size W w' := by
  by_cases hg : GoodA x
  · by_cases hq : 20 < q.length
    · exact UsageWay_long W x ⟨hwd, hwf, hp, hl, hb, ha, hk⟩ hg vq q ql qw qv hq
    · exact UsageWay_main W x ⟨hwd, hwf, hp, hl, hb, ha, hk⟩ hg vq q ql qw qv hq
  · exact UsageWay_bad W x ⟨hwd, hwf, hp, hl, hb, ha, hk⟩ hg vq q ql qw qv
end Go.Proofs.YtlpdafldabfiaaaGreat
