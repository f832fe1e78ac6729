/- ReleaseAll. Written by tools/gen_rel*.py. -/
import Derived.Test.YtjfjjmlocgmicaaGreatB2
import Derived.Test.YtjfjjmlocgmicaaGreatB8
import Derived.Test.YtjfjjmlocgmicaaGreatB26
import Derived.Test.YtjfjjmlocgmicaaGreatB37
import Derived.Test.YtjfjjmlocgmicaaGreatB38
import Derived.Lib.QuietBelow
import Derived.Deep.RegionWith
import Derived.StillTailTactics
namespace Go.Proofs.YtjfjjmlocgmicaaGreat
open Go.ChangeShapes Go.WideShapes Go.ChangeAt Go.RowKit Go.Shelf
set_option linter.unusedVariables false
set_option linter.unusedSimpArgs false
set_option maxRecDepth 100000
theorem ans13E (e n : Int) (x : Bool) (q : Int) (w : World) : (Instr.field 54 (.agg #[.int .i64 e, .int .i64 n, .bool x, .int .i64 q]) 0).run Tryz.prog w = .ok (.int .i64 e) w := by kernel_rfl
theorem rot_step {c : Cf} {W0 ws : List Int} {B : Int} {ts : List Nat} {hs : List Int} {i : Nat} (hi : i < hs.length) (H : WR c W0 B (ts.drop i) (hs.drop i) ws) : ∃ t, WR c W0 B (t :: ts.drop (i + 1)) (hs.getD i 0 :: hs.drop (i + 1)) ws := by
  have hl := H.len
  simp only [List.length_drop] at hl
  have hti : i < ts.length := by omega
  rw [List.drop_eq_getElem_cons hti, List.drop_eq_getElem_cons hi] at H
  rw [List.getD_eq_getElem?_getD, List.getElem?_eq_getElem hi, Option.getD_some]
  exact ⟨_, H⟩
theorem ReleaseAll_bad (W : World) (x : Ak) {vp vl vb va vk : Value} (H : AkAt W x vp vl vb va vk) (hg : ¬ GoodA x) (vq : Value) (q : List Int) (ql : q.length ≤ maxLen) (qw : ∀ n ∈ q, (Lit.int .u16 n).wf = true) (qv : IntsAt W .u16 vq q) (turn : Int) (turn0 : IntKind.u8.min ≤ turn) (turn1 : turn ≤ IntKind.u8.max) :
    Calls Tryz.prog 8 #[akV x vp vl vb va vk, vq, .int .u8 turn] W fun e w' => e = .returned (.bool true) ∧ Below W.heap.size W w' := by
  obtain ⟨pp, cp, rfl⟩ := H.p.slice
  obtain ⟨pl, cl, rfl⟩ := H.l.slice
  obtain ⟨pq, cq, rfl⟩ := qv.slice
  have h0 := (Own.start W).new (akO x (.slice pp x.c.ps.length cp) (.slice pl x.c.ls.length cl) vb va vk)
  have Hh := Lib.hid (head13_any h0)
  have HG := fun w' (hb : Stp W w') => Lib.hid (aGood_no (w := w') (H.stp hb) hg)
  clear h0 hg
  unfold akV at HG ⊢
  clear H
  go_enter Tryz.func8, Tryz.ntmps8
  go_wp2_with fail
  refine Hh.out.mono ?_
  rintro e w1 ⟨rfl, hO⟩
  obtain ⟨d0, d1, d2, d3, d4, d5, d6, d7, d8, d9, d10, d11, d12, d13⟩ := akCells hO
  go_wp2_with fail
  refine (HG _ hO.toBelow).out.mono ?_
  rintro e w2 ⟨rfl, hB⟩
  have hO := hO.below hB
  clear hB HG Hh d0 d1 d2 d3 d4 d5 d6 d7 d8 d9 d10 d11 d12 d13
  have HB := Lib.hid hO.toBelow
  clear hO
  go_wp2_with fail
  go_ret
  exact ⟨rfl, HB.out⟩
theorem ReleaseAll_long (W : World) (x : Ak) {vp vl vb va vk : Value} (H : AkAt W x vp vl vb va vk) (hg : GoodA x) (vq : Value) (q : List Int) (ql : q.length ≤ maxLen) (qw : ∀ n ∈ q, (Lit.int .u16 n).wf = true) (qv : IntsAt W .u16 vq q) (hq : 20 < q.length) (turn : Int) (turn0 : IntKind.u8.min ≤ turn) (turn1 : turn ≤ IntKind.u8.max) :
    Calls Tryz.prog 8 #[akV x vp vl vb va vk, vq, .int .u8 turn] W fun e w' => e = .returned (.bool true) ∧ Below W.heap.size W w' := by
  obtain ⟨pp, cp, rfl⟩ := H.p.slice
  obtain ⟨pl, cl, rfl⟩ := H.l.slice
  obtain ⟨pq, cq, rfl⟩ := qv.slice
  have h0 := (Own.start W).new (akO x (.slice pp x.c.ps.length cp) (.slice pl x.c.ls.length cl) vb va vk)
  have Hh := Lib.hid (head13_any h0)
  have HG := fun w' (hb : Stp W w') => Lib.hid (aGood_yes (w := w') (H.stp hb) hg)
  have g1 : (20 : Int) < (q.length : Int) := by omega
  clear h0 hg
  unfold akV at HG ⊢
  clear H
  go_enter Tryz.func8, Tryz.ntmps8
  go_wp2_with fail
  refine Hh.out.mono ?_
  rintro e w1 ⟨rfl, hO⟩
  obtain ⟨d0, d1, d2, d3, d4, d5, d6, d7, d8, d9, d10, d11, d12, d13⟩ := akCells hO
  go_wp2_with fail
  refine (HG _ hO.toBelow).out.mono ?_
  rintro e w2 ⟨rfl, hB⟩
  have hO := hO.below hB
  clear hB HG Hh d0 d1 d2 d3 d4 d5 d6 d7 d8 d9 d10 d11 d12 d13
  have HB := Lib.hid hO.toBelow
  clear hO
  go_wp2_with fail
  go_ret
  exact ⟨rfl, HB.out⟩
set_option maxHeartbeats 20000000 in
theorem ReleaseAll_main (W : World) (x : Ak) {vp vl vb va vk : Value} (H : AkAt W x vp vl vb va vk) (hg : GoodA x) (vq : Value) (q : List Int) (ql : q.length ≤ maxLen) (qw : ∀ n ∈ q, (Lit.int .u16 n).wf = true) (qv : IntsAt W .u16 vq q) (hq : ¬ 20 < q.length) (turn : Int) (turn0 : IntKind.u8.min ≤ turn) (turn1 : turn ≤ IntKind.u8.max) :
    Calls Tryz.prog 8 #[akV x vp vl vb va vk, vq, .int .u8 turn] W fun e w' => e = .returned (.bool true) ∧ Below W.heap.size W w' := by
  obtain ⟨pp, cp, rfl⟩ := H.p.slice
  obtain ⟨pl, cl, rfl⟩ := H.l.slice
  obtain ⟨pq, cq, rfl⟩ := qv.slice
  have h0 := (Own.start W).new (akO x (.slice pp x.c.ps.length cp) (.slice pl x.c.ls.length cl) vb va vk)
  have Hh := Lib.hid (head13_any h0)
  have hr := hg.rt
  have hl40 := hg.l
  have hwfx := H.wf
  have hq20 : ¬ (20 : Int) < (q.length : Int) := by omega
  have hqu : ∀ y ∈ q, 0 ≤ y ∧ y ≤ 65535 := fun y hy => (show (0 : Int) ≤ y ∧ y ≤ 65535 from law_wf (qw y hy))
  have HG := fun w' (hb : Stp W w') => Lib.hid (aGood_yes (w := w') (H.stp hb) hg)
  have HWd := fun w L (h : Own W NoF L w) => Lib.hid (relWords_any H hg qv hqu (by omega) h)
  have HWR := Lib.hid (wr_any (l := q) hr hwfx (nR q) (by unfold nR; omega))
  have HNR := Lib.hid (show nR q ≤ 4 by unfold nR; omega)
  have Hhl := Lib.hid (hdR_len x q (nR q))
  have Hp := Lib.hid H.p
  have Hl := Lib.hid H.l
  have Hr := Lib.hid hr
  have Hwx := Lib.hid hwfx
  have hn0 := hr.n0
  have hn1 := hr.n1
  have HFw := fun w L (h : Own W NoF L w) => Lib.hid (aWords_any H hg h)
  have HAK := Lib.hid (show DW x.c 1099511627776 (akW x) from akW_dw x hr hwfx)
  clear h0 hg hr hwfx hqu qw qv ql
  unfold akV at HG HWd HFw ⊢
  clear H
  go_enter Tryz.func8, Tryz.ntmps8
  go_wp2_with fail
  refine Hh.out.mono ?_
  rintro e w1 ⟨rfl, hO⟩
  obtain ⟨d0, d1, d2, d3, d4, d5, d6, d7, d8, d9, d10, d11, d12, d13⟩ := akCells hO
  go_wp2_with fail
  refine (HG _ hO.toBelow).out.mono ?_
  rintro e w2 ⟨rfl, hB⟩
  have hO := hO.below hB
  clear hB HG Hh d0 d1 d2 d3 d4 d5 d6 d7 d8 d9 d10 d11 d12 d13
  obtain ⟨d0, d1, d2, d3, d4, d5, d6, d7, d8, d9, d10, d11, d12, d13⟩ := akCells hO
  generalize nR q = NR at *
  generalize hWS : wdR x q NR = ws at *
  generalize hdR x q NR = hs at *
  have HWS := Lib.hid hWS
  clear hWS
  go_wp2_with fail
  refine (HWd _ _ hO).out.mono ?_
  rintro e w4 ⟨vw, vh, rfl, hO⟩
  clear HWd d0 d1 d2 d3 d4 d5 d6 d7 d8 d9 d10 d11 d12 d13
  obtain ⟨B0, ts, hB0, hB1, hWR⟩ : ∃ (B0 : Int) (ts : List Nat), B0 ≤ 9000000000000 ∧ 1099511627776 ≤ B0 ∧ WR x.c (akW x) B0 ts hs ws := by
    obtain ⟨ts, h⟩ := HWR.out
    exact ⟨_, ts, by have := HNR.out; omega, by omega, h⟩
  have hlen : 2 ≤ ws.length ∧ ws.length ≤ 400 := by
    have h1 := sizeN_bd Hr.out
    have h2 := (ti_nat Hr.out).2.1
    have h3 := hWR.w.len
    unfold sizeN at h1 h3
    omega
  have HLn := Lib.hid hWR.w.len
  rw [← HLn.out] at hO
  obtain ⟨pw, cw, rfl⟩ := row_slice hO
  obtain ⟨ph, ch, rfl⟩ := row_slice hO.swap
  have hsl : hs.length ≤ 4 := by have := Hhl.out; have := HNR.out; omega
  clear HWR HNR Hhl
  have HWR := Lib.hid hWR
  have HHS := Lib.hid (show ∀ h ∈ hs, nmB h x.c.ti = true from fun h hh => by
    have q := hWR.hs
    rw [q, List.mem_map] at hh
    obtain ⟨t, ht, rfl⟩ := hh
    exact (relP_tk (th := 0) Hr.out t _ (hWR.lt t ht)).1)
  clear hWR
  have HLd := Lib.hid (pLaid_any (by omega) (by omega) hO)
  clear hO
  go_wp2_with fail
  refine HLd.out.mono ?_
  rintro e w5 ⟨m, rfl, hO⟩
  clear HLd
  have tn0 : (0 : Int) ≤ turn := turn0
  have tn1 : turn ≤ 255 := turn1
  clear turn0 turn1
  have HRot := Lib.hid (HWR.out.rot (turn.toNat % hs.length))
  have HRg := Lib.hid (fun i (hi : i < hs.length) (hj : turn.toNat % hs.length < hs.length) => rot_get hs (turn.toNat % hs.length) i 0 hj hi)
  have HRl := Lib.hid (rot_len hs (turn.toNat % hs.length))
  obtain ⟨J, hJ⟩ : ∃ J, J = turn.toNat % hs.length := ⟨_, rfl⟩
  rw [← hJ] at HRot HRg HRl
  have HJ := Lib.hid hJ
  generalize rotR hs J = rh at *
  generalize rotR ts J = rt at *
  have HO := Lib.hid (show Own W NoF (memA 107 m ws [] :: row (.slice ph hs.length ch) 3 1 hs.length (intC hs) :: [blk W.heap.size (akO x (.slice pp x.c.ps.length cp) (.slice pl x.c.ls.length cl) vb va vk)]) w5 from hO.under fun _ _ h => h.drop)
  clear hO HWR HHS HLn HWS hJ
  go_wp2_with fail
  go_loopw [11, 12, 13, 14] (fun v11 v12 v13 v14 wr => ∃ (i : Nat) (w1 : List Int) (lg : List Acc), i ≤ hs.length ∧ v11 = .int .i64 i ∧ lg.length ≤ 1000 * i ∧ WR x.c (akW x) (B0 + (i : Int) * 104857600) (rt.drop i) (rh.drop i) w1 ∧ Own W NoF (memA 107 m w1 lg :: row (.slice ph hs.length ch) 3 1 hs.length (intC hs) :: [blk W.heap.size (akO x (.slice pp x.c.ps.length cp) (.slice pl x.c.ls.length cl) vb va vk)]) wr) (fun v11 v12 v13 v14 _ => hs.length - (intOf v11).toNat)
  case atStart => exact ⟨0, ws, [], Nat.zero_le _, rfl, by simp, by have := HRot.out; simpa using this, HO.out⟩
  case round =>
    obtain ⟨i, w1, lg, hi, rfl, hlg, hW, hO⟩ := hrel
    clear HO HRot
    by_cases hlt : i < hs.length
    · have hrl := HRl.out
      obtain ⟨t, hW2⟩ := rot_step (by omega) hW
      have hjl : J < hs.length := by rw [HJ.out]; exact Nat.mod_lt _ (by omega)
      have hge := HRg.out i hlt hjl
      have hHD := hW2.hs
      obtain ⟨bh, oh, ch2, eq_, hch⟩ := (hO.swap.intsAt).at (by omega)
      injection eq_ with e1 e2 e3
      subst e1 e3
      have hml := Nat.mod_lt (i + J) (show 0 < hs.length by omega)
      have x0 := hch _ hml
      rw [← hge] at x0
      have c1 : IntKind.i64.wrap turn = turn := IntWalk.i64_in _ (by omega)
      have c2 : IntKind.i64.wrap ((i : Int) + turn) = (i : Int) + turn := IntWalk.i64_in _ (by omega)
      have c3 : ((i : Int) + turn).tmod (hs.length : Int) = (((i + J) % hs.length : Nat) : Int) := by
        rw [Int.tmod_eq_emod_of_nonneg (by omega)]
        have e : (i : Int) + turn = ((i + turn.toNat : Nat) : Int) := by omega
        rw [e, ← Int.natCast_emod, HJ.out, Nat.add_mod_mod]
      have z1 : ¬ ((hs.length : Int) = 0) := by omega
      have z3 : ¬ hs.length = 0 := by omega
      have z4 : ¬ hs = [] := fun e => z3 (by rw [e]; rfl)
      have z5 : 0 < hs.length := by omega
      have z2 : ((hs.length : Int) == 0) = false := by rw [beq_eq_false_iff_ne]; omega
      have g1 : (i : Int) < (hs.length : Int) := by omega
      have hlt2 := hW2.lt t (List.mem_cons_self ..)
      have hkk : rh.getD i 0 = hdV (t : Nat) (w1.getD (tkN x.c t) 0) := by
        rw [List.map_cons] at hHD; injection hHD
      obtain ⟨q1, q2⟩ := relP_tk Hr.out t (w1.getD (tkN x.c t) 0) hlt2 i
      rw [← hkk] at q1 q2
      have HW2 := Lib.hid hW2
      have hnm := nm_hd _ x.c.ti (by have := ti_nat Hr.out; omega) q1
      have hh64 : W64 (rh.getD i 0) := by
        have hdd := of_decide_eq_true q1
        have := ti_nat Hr.out
        unfold W64; omega
      have HNw := fun w L (h : Own W NoF L w) => Lib.hid (relNew_any (c := x.c) (vp := .slice pp x.c.ps.length cp) (vl := .slice pl x.c.ls.length cl) (hd := rh.getD i 0) (th := i) (by have := ti_nat Hr.out; omega) (by have := ti_nat Hr.out; omega) hh64 q1 (by omega) h)
      have hpo : (relP x.c (rh.getD i 0) i).Ok := relP_ok Hr.out q1 (by omega)
      have hbd : Liv (relP x.c (rh.getD i 0) i) w1 → BdOk x.c (w1.getD ((relP x.c (rh.getD i 0) i).tk + 1) 0) := fun hL => given_bd Hr.out hW2 q1 hL
      have HPO := Lib.hid hpo
      have HBD := Lib.hid hbd
      have HQ1 := Lib.hid q1
      have hOd := hO.drew
      obtain ⟨d0, d1, d2, d3, d4, d5, d6, d7, d8, d9, d10, d11, d12, d13⟩ := akCells hOd.p2
      clear hW hW2 hHD hch hkk q1 q2 hnm hh64 hpo hbd hO hlt2
      obtain ⟨hd, hhd⟩ : ∃ hd, hd = rh.getD i 0 := ⟨_, rfl⟩
      rw [← hhd] at x0 HNw HPO HBD HQ1 HW2 hge
      have HGE := Lib.hid hge.symm
      have x0 := ((Stp.refl wr).drew).cell x0
      clear hge
      have hZl := hml
      generalize (i + J) % hs.length = Z at *
      have g2 : (Z : Int) < (hs.length : Int) := by omega
      have HHd := Lib.hid hhd
      clear hhd hml
      go_wp2_with fail
      go_region_held3 (fun w' => w'.cell? ⟨W.heap.size, 0, none⟩ = some (.int .i64 x.c.th) ∧ w'.cell? ⟨W.heap.size, 1, none⟩ = some (.int .i64 x.c.st) ∧ w'.cell? ⟨W.heap.size, 2, none⟩ = some (.int .i64 x.c.ga) ∧ w'.cell? ⟨W.heap.size, 3, none⟩ = some (.int .i64 x.c.le) ∧ w'.cell? ⟨W.heap.size, 4, none⟩ = some (.int .i64 x.c.re) ∧ w'.cell? ⟨W.heap.size, 5, none⟩ = some (.int .i64 x.c.ti) ∧ w'.cell? ⟨W.heap.size, 6, none⟩ = some (.slice pp x.c.ps.length cp) ∧ w'.cell? ⟨W.heap.size, 7, none⟩ = some (.slice pl x.c.ls.length cl) ∧ w'.cell? ⟨bh, oh + Z, none⟩ = some (.int .i64 hd)) (go_keep) (first
        | (go_at_call 14; refine (HNw _ _ (by with_reducible assumption)).out.mono ?_; rintro e w' ⟨g, rfl, hO2⟩; obtain ⟨d0, d1, d2, d3, d4, d5, d6, d7, d8, d9, d10, d11, d12, d13⟩ := akCells hO2.p3; have x0 := row_cell hO2.p2 rfl Z hZl; rw [HGE.out] at x0))
      all_goals
        have hO3 : Own W NoF (relA (.slice pp x.c.ps.length cp) (.slice pl x.c.ls.length cl) g (relP x.c hd i) s0R :: memA 107 m w1 lg :: row (.slice (some ⟨bh, oh, none⟩) hs.length ch) 3 1 hs.length (intC hs) :: [blk W.heap.size (akO x (.slice pp x.c.ps.length cp) (.slice pl x.c.ls.length cl) vb va vk)]) _ := hO2
        have HPl := Lib.hid (rel_alone_play (lg0 := lg) g (relP x.c hd i) (B0 + (i : Int) * 104857600) (by omega) Hp.out Hl.out HPO.out HW2.out.w HBD.out (by omega) hO3)
        clear hO2 hO3 hOd HNw x0 c1 c2 c3 d0 d1 d2 d3 d4 d5 d6 d7 d8 d9 d10 d11 d12 d13
        go_wp2_with fail
        refine HPl.out.mono ?_
        rintro e w7 ⟨k, s', ws', lg', rfl, hk, hlk, hI, h6, hA, hO⟩
        obtain ⟨-, her, hW3⟩ := WR.rel Hr.out HW2.out hI hA
        have HAn := relAns_any hO
        obtain ⟨e1, e2, e3⟩ := rel_shut h6
        rw [e1, e2, e3, her] at HAn
        unfold ansV at HAn
        have HA := Lib.hid HAn
        have HW3 := Lib.hid hW3
        have HO := Lib.hid hO
        have fE := fun y z => ans13E 0 y false z
        clear HAn hI hA hW3 hO HPl e1 e2 e3 HW2 HPO HBD
        generalize s'.an = an at *
        generalize s'.nd = nd at *
        go_wp2_with fail
        refine HA.out.mono ?_
        rintro e w8 ⟨rfl, hB⟩
        have HO2 := Lib.hid (HO.out.below hB).drop
        clear HA HO hB
        go_wp2_with fail
        go_roundw
        case rel => exact ⟨i + 1, ws', lg ++ lg', by omega, by go_num, by rw [List.length_append]; omega, by have h := HW3.out; rw [show B0 + (i : Int) * 104857600 + 104857600 = B0 + ((i + 1 : Nat) : Int) * 104857600 by push_cast; omega] at h; exact h, HO2.out⟩
        case measure => simp [intOf]; omega
    · obtain rfl : i = hs.length := by omega
      have hrl := HRl.out
      have hdr : rh.drop hs.length = [] := List.drop_eq_nil_of_le (by omega)
      have hWl := hW.len
      rw [hdr] at hW hWl
      have hdt : rt.drop hs.length = [] := List.length_eq_zero_iff.1 (by simpa using hWl.symm)
      rw [hdt] at hW
      have HW := Lib.hid hW
      have g1 : ¬ (hs.length : Int) < (hs.length : Int) := by omega
      obtain ⟨d0, d1, d2, d3, d4, d5, d6, d7, d8, d9, d10, d11, d12, d13⟩ := akCells hO.p2
      have HF := HFw _ _ hO
      clear hW hO hWl hdr hdt HFw
      go_wp2_with fail
      refine HF.out.mono ?_
      rintro e w9 ⟨vf, rfl, hO⟩
      clear HF d0 d1 d2 d3 d4 d5 d6 d7 d8 d9 d10 d11 d12 d13
      obtain ⟨pf, cf, rfl⟩ := row_slice hO
      have hlf := (akA_len x (akRA x))
      have hO : Own W NoF (row (.slice pf (sizeN x.c) cf) 3 1 (akW x).length (intC (akW x)) :: memA 107 m w1 lg :: row (.slice ph hs.length ch) 3 1 hs.length (intC hs) :: [blk W.heap.size (akO x (.slice pp x.c.ps.length cp) (.slice pl x.c.ls.length cl) vb va vk)]) w9 := by
        rw [show (akW x).length = sizeN x.c from hlf]; exact hO
      have HO := Lib.hid hO
      have hB1 : B0 + ((hs.length : Nat) : Int) * 104857600 ≤ 1000000000000000 := by omega
      have L1 := fun (u : Nat) (hu : u < x.c.ps.length) w (h : Own W NoF (row (.slice pf (sizeN x.c) cf) 3 1 (akW x).length (intC (akW x)) :: memA 107 m w1 lg :: row (.slice ph hs.length ch) 3 1 hs.length (intC hs) :: [blk W.heap.size (akO x (.slice pp x.c.ps.length cp) (.slice pl x.c.ls.length cl) vb va vk)]) w) => Lib.hid (uLeft_any (pp := pp) (pl := pl) (cp := cp) (cl := cl) Hr.out hB1 HW.out.w u hu h.swap)
      have L2 := fun (u : Nat) (hu : u < x.c.ps.length) w (h : Own W NoF (row (.slice pf (sizeN x.c) cf) 3 1 (akW x).length (intC (akW x)) :: memA 107 m w1 lg :: row (.slice ph hs.length ch) 3 1 hs.length (intC hs) :: [blk W.heap.size (akO x (.slice pp x.c.ps.length cp) (.slice pl x.c.ls.length cl) vb va vk)]) w) => Lib.hid (uRLeft_any (pp := pp) (pl := pl) (cp := cp) (cl := cl) Hr.out (show (1099511627776 : Int) ≤ 1000000000000000 by decide) HAK.out u hu h.intsAt)
      have L3 := fun (u : Nat) (hu : u < x.c.ps.length) w => Lib.hid (uCtr_any (pp := pp) (pl := pl) (cp := cp) (cl := cl) Hr.out u hu w)
      have L4 := fun (u : Nat) (hu : u < x.c.ps.length) w (h : Own W NoF (row (.slice pf (sizeN x.c) cf) 3 1 (akW x).length (intC (akW x)) :: memA 107 m w1 lg :: row (.slice ph hs.length ch) 3 1 hs.length (intC hs) :: [blk W.heap.size (akO x (.slice pp x.c.ps.length cp) (.slice pl x.c.ls.length cl) vb va vk)]) w) => Lib.hid (uSum_any Hr.out HW.out.w u hu h.swap)
      have HNo := Lib.hid (fun (u : Nat) (hu : u < x.c.ps.length) => HW.out.none u hu)
      clear hO hlf hB1 HW HAK
      go_wp2_with fail
      go_loopw [16] (fun v16 wr => ∃ u : Nat, u ≤ x.c.ps.length ∧ v16 = .int .i64 u ∧ Own W NoF (row (.slice pf (sizeN x.c) cf) 3 1 (akW x).length (intC (akW x)) :: memA 107 m w1 lg :: row (.slice ph hs.length ch) 3 1 hs.length (intC hs) :: [blk W.heap.size (akO x (.slice pp x.c.ps.length cp) (.slice pl x.c.ls.length cl) vb va vk)]) wr) (fun v16 _ => x.c.ps.length - (intOf v16).toNat)
      case atStart => exact ⟨0, Nat.zero_le _, rfl, HO.out⟩
      case round =>
        obtain ⟨u, hu, rfl, hO⟩ := hrel
        clear HO
        by_cases hlu : u < x.c.ps.length
        · have g3 : (u : Int) < (x.c.ps.length : Int) := by omega
          have HO6 := hO.p3
          have hOd := hO.drew
          obtain ⟨d0, d1, d2, d3, d4, d5, d6, d7, d8, d9, d10, d11, d12, d13⟩ := akCells hOd.p3
          obtain ⟨n1, n2⟩ := HNo.out u hlu
          have M1 := L1 u hlu
          have M2 := L2 u hlu
          have M3 := L3 u hlu
          have M4 := L4 u hlu
          rw [n1] at M1
          rw [n2] at M4
          have g4 : (leftU x.c u (akW x) != leftU x.c u (akW x)) = false := by simp
          have g5 : ((0 : Int) != 0) = false := by decide
          generalize leftU x.c u (akW x) = LU at *
          generalize ctN x.c u = CT at *
          clear hO n1 n2 L1 L2 L3 L4 d8 d9 d10 d11 d12 d13
          have y6 := HO6.cell (i := 6) (v := .slice pp x.c.ps.length cp) rfl
          clear HO6
          go_wp2_with fail
          try dsimp only [List.append]
          go_region_held3 (fun w' => w'.cell? ⟨W.heap.size, 0, none⟩ = some (.int .i64 x.c.th) ∧ w'.cell? ⟨W.heap.size, 1, none⟩ = some (.int .i64 x.c.st) ∧ w'.cell? ⟨W.heap.size, 2, none⟩ = some (.int .i64 x.c.ga) ∧ w'.cell? ⟨W.heap.size, 3, none⟩ = some (.int .i64 x.c.le) ∧ w'.cell? ⟨W.heap.size, 4, none⟩ = some (.int .i64 x.c.re) ∧ w'.cell? ⟨W.heap.size, 5, none⟩ = some (.int .i64 x.c.ti) ∧ w'.cell? ⟨W.heap.size, 6, none⟩ = some (.slice pp x.c.ps.length cp) ∧ w'.cell? ⟨W.heap.size, 7, none⟩ = some (.slice pl x.c.ls.length cl)) (go_keep) (first
            | (go_at_call 25; refine (M1 _ hOd).out.mono ?_; rintro e w20 ⟨rfl, hB'⟩; have hOd := hOd.below hB'; have hB : Stp _ w20 := hB'; have d0 := Stp.cell hB d0; have d1 := Stp.cell hB d1; have d2 := Stp.cell hB d2; have d3 := Stp.cell hB d3; have d4 := Stp.cell hB d4; have d5 := Stp.cell hB d5; have d6 := Stp.cell hB d6; have d7 := Stp.cell hB d7)
            | (go_at_call 35; refine (M2 _ hOd).out.mono ?_; rintro e w21 ⟨rfl, hB'⟩; have hOd := hOd.below hB'; have hB : Stp _ w21 := hB'; have d0 := Stp.cell hB d0; have d1 := Stp.cell hB d1; have d2 := Stp.cell hB d2; have d3 := Stp.cell hB d3; have d4 := Stp.cell hB d4; have d5 := Stp.cell hB d5; have d6 := Stp.cell hB d6; have d7 := Stp.cell hB d7)
            | (go_at_call 27; refine (M3 _).out.mono ?_; rintro e w22 ⟨rfl, hB'⟩; have hOd := hOd.below hB'; have hB : Stp _ w22 := hB'; have d0 := Stp.cell hB d0; have d1 := Stp.cell hB d1; have d2 := Stp.cell hB d2; have d3 := Stp.cell hB d3; have d4 := Stp.cell hB d4; have d5 := Stp.cell hB d5; have d6 := Stp.cell hB d6; have d7 := Stp.cell hB d7)
            | (go_at_call 26; refine (M4 _ hOd).out.mono ?_; rintro e w23 ⟨rfl, hB'⟩; have hOd := hOd.below hB'; have hB : Stp _ w23 := hB'; have d0 := Stp.cell hB d0; have d1 := Stp.cell hB d1; have d2 := Stp.cell hB d2; have d3 := Stp.cell hB d3; have d4 := Stp.cell hB d4; have d5 := Stp.cell hB d5; have d6 := Stp.cell hB d6; have d7 := Stp.cell hB d7))
          all_goals
            have HO2 := Lib.hid hOd
            clear hOd d0 d1 d2 d3 d4 d5 d6 d7
            go_wp2_with fail
            go_roundw
            case rel => exact ⟨u + 1, by omega, by go_num, HO2.out⟩
            case measure => simp [intOf]; omega
        · obtain rfl : u = x.c.ps.length := by omega
          have hOd := hO
          obtain ⟨d0, d1, d2, d3, d4, d5, d6, d7, d8, d9, d10, d11, d12, d13⟩ := akCells hOd.p3
          have HB := Lib.hid hO.toBelow
          clear hO hOd L1 L2 L3 L4 HNo
          go_wp2_with fail
          go_ret
          exact ⟨rfl, HB.out⟩
theorem ReleaseAll_calls (W : World) (x : Ak) (vp vl vb va vk : Value) (hwd : Wide x.c) (hwf : x.Wf) (hp : IntsAt W .i64 vp x.c.ps) (hl : IntsAt W .i64 vl x.c.ls) (hb : BlsAt W vb x.bs) (ha : IntsAt W .u32 va x.av) (hk : PksAt W vk x.l) (vq : Value) (q : List Int) (ql : q.length ≤ maxLen) (qw : ∀ n ∈ q, (Lit.int .u16 n).wf = true) (qv : IntsAt W .u16 vq q) (turn : Int) (turn0 : IntKind.u8.min ≤ turn) (turn1 : turn ≤ IntKind.u8.max) :
    Calls Tryz.prog 8 #[akV x vp vl vb va vk, vq, .int .u8 turn] W fun e w' => e = .returned (.bool true) ∧ Below W.heap.size W w' := by
  by_cases hg : GoodA x
  · by_cases hq : 20 < q.length
    · exact ReleaseAll_long W x ⟨hwd, hwf, hp, hl, hb, ha, hk⟩ hg vq q ql qw qv hq turn turn0 turn1
    · exact ReleaseAll_main W x ⟨hwd, hwf, hp, hl, hb, ha, hk⟩ hg vq q ql qw qv hq turn turn0 turn1
  · exact ReleaseAll_bad W x ⟨hwd, hwf, hp, hl, hb, ha, hk⟩ hg vq q ql qw qv turn turn0 turn1
end Go.Proofs.YtjfjjmlocgmicaaGreat
